/-
  The list of free nodes, in plain numbers: what stands in a memory, what each step of a Pop and a Push does to it, and what it leaves to others. Conditions: a formed plan; fewer swaps than a tag can tell.
-/
import Derived.Test.YtpidmbclgfnekaaGreatGak
namespace Go.Proofs.YtpidmbclgfnekaaGreat
open Go Go.RowKit

/-! Words. -/
theorem ndW_def (h : BitVec 64) : ndW h = getN 0 21 h := by unfold ndW; rfl
theorem tagW_def (h : BitVec 64) : tagW h = getN 21 43 h := by unfold tagW; rfl
theorem folW_def (h x : BitVec 64) : folW h x = putN 21 43 (putN 0 21 h x) (tagW h + 1#64) := by unfold folW; rfl
theorem nodeI_def (x : BitVec 64) : nodeI x = U x - 1 := by unfold nodeI; rfl
theorem small_and (x : BitVec 64) (b : Int) (hb : Fm 0 b) (h : x.toNat < 2 ^ b.toNat) : x &&& mostN b = x := by
  apply bv_eq
  intro i hi
  rw [BitVec.getLsbD_and, mostN_bit b i (by have := hb.2.2; omega) (by have := hb.2.2; omega)]
  by_cases hlt : (i : Int) < b
  · simp [hlt]
  · have : x.getLsbD i = false := by
      rw [BitVec.getLsbD]
      exact Nat.testBit_lt_two_pow (Nat.lt_of_lt_of_le h (Nat.pow_le_pow_right (by omega) (by omega)))
    rw [this]
    simp
theorem nd_fol (h x : BitVec 64) (hx : U x < 2097152) : ndW (folW h x) = x := by
  rw [ndW_def, folW_def]
  have h1 : getN 0 21 (putN 21 43 (putN 0 21 h x) (tagW h + 1#64)) = getN 0 21 (putN 0 21 h x) := by
    apply bv_eq
    intro i hi
    rw [getN_bit _ _ _ _ fmN, getN_bit _ _ _ _ fmN]
    by_cases hlt : (i : Int) < 21
    · rw [putN_bit _ _ _ _ _ fmT (by simp; omega)]
      have : ¬ (21 ≤ ((((0 : Int).toNat + i : Nat)) : Int) ∧ ((((0 : Int).toNat + i : Nat)) : Int) < 21 + 43) := by simp; omega
      simp only [this, if_false]
    · simp [hlt]
  rw [h1, get_put 0 21 h x fmN]
  refine small_and x 21 fmN ?_
  rw [U_toNat] at hx
  have e : (2 : Nat) ^ (21 : Int).toNat = 2097152 := by decide
  omega
theorem tag_fol (h x : BitVec 64) (ht : U (tagW h) < 8796093022207) : U (tagW (folW h x)) = U (tagW h) + 1 := by
  have e0 : tagW (folW h x) = (tagW h + 1#64) &&& mostN 43 := by
    rw [tagW_def (folW h x), folW_def, get_put 21 43 _ _ fmT]
  have e1 : (tagW h + 1#64).toNat = (tagW h).toNat + 1 := by
    rw [U_toNat] at ht
    rw [BitVec.toNat_add]
    have : (1#64).toNat = 1 := by decide
    rw [this]
    omega
  rw [e0, small_and _ 43 ⟨by decide, by decide, by decide, by decide⟩ ?_, U_toNat, e1, U_toNat]
  · simp
  · rw [e1]
    rw [U_toNat] at ht
    have e : (2 : Nat) ^ (43 : Int).toNat = 8796093022208 := by decide
    omega
theorem nd_fresh : ndW (putN 0 21 0#64 (nameW 0)) = nameW 0 := by
  rw [ndW_def, get_put 0 21 _ _ fmN]
  refine small_and _ 21 fmN ?_
  have h := U_nameW (n := 0) (by omega) (by omega)
  rw [U_toNat] at h
  have e : (2 : Nat) ^ (21 : Int).toNat = 2097152 := by decide
  omega
theorem tag_fresh : U (tagW (putN 0 21 0#64 (nameW 0))) = 0 := by
  have : tagW (putN 0 21 0#64 (nameW 0)) = 0#64 := by
    rw [tagW_def]
    apply bv_eq
    intro i hi
    rw [getN_bit _ _ _ _ fmT]
    by_cases hlt : (i : Int) < 43
    · rw [putN_bit _ _ _ _ _ fmN (by simp; omega)]
      have : ¬ (0 ≤ ((((21 : Int).toNat + i : Nat)) : Int) ∧ ((((21 : Int).toNat + i : Nat)) : Int) < 0 + 21) := by simp; omega
      simp only [this, if_false]
      simp
    · simp [hlt]
  rw [this, U_0]
theorem tag_shr (h : BitVec 64) : h >>> 21 = tagW h := by
  rw [tagW_def]
  apply bv_eq
  intro i hi
  rw [getN_bit _ _ _ _ fmT, BitVec.getLsbD_ushiftRight]
  by_cases hlt : (i : Int) < 43
  · simp [hlt]
  · have : h.getLsbD (21 + i) = false := BitVec.getLsbD_of_ge _ _ (by omega)
    rw [this]
    simp [hlt]
theorem nameW_ne0 {n : Int} (h0 : 0 ≤ n) (h1 : n < 4611686018427387904) : nameW n ≠ 0#64 := fun e => by
  have := U_nameW h0 h1
  rw [e, U_0] at this
  omega
theorem node_name {n : Int} (h0 : 0 ≤ n) (h1 : n < 4611686018427387904) : nodeI (nameW n) = n := by
  rw [nodeI_def, U_nameW h0 h1]
  omega
theorem name_inj {n m : Int} (h0 : 0 ≤ n) (h1 : n < 4611686018427387904) (g0 : 0 ≤ m) (g1 : m < 4611686018427387904) (e : nameW n = nameW m) : n = m := by
  rw [← node_name h0 h1, e, node_name g0 g1]

/-! Places. -/
def nxN (p : Pl) (n : Int) : Nat := (p.nxF n).toNat
def InR (p : Pl) (n : Int) : Prop := 0 ≤ n ∧ n < p.n
theorem InR.lt {p : Pl} (hp : p.ok) {n : Int} (h : InR p n) : n < 2097151 := by
  have := hp.1
  have := h.2
  omega
theorem nx_eq {p : Pl} (hp : p.ok) {n : Int} (h : InR p n) : p.nxF n = p.cnt p.t + n * 5 + 1 := by
  unfold Pl.nxF
  rw [if_pos ⟨hp, h.1, h.2⟩]
  rfl
theorem nx_in {p : Pl} (hp : p.ok) {n : Int} (h : InR p n) : 1 ≤ p.nxF n ∧ p.nxF n < p.sizeF := by
  have h1 := Pl.cnt_in hp (x := p.t) (Pl.t_in hp).1 (Int.le_refl _)
  rw [nx_eq hp h]
  unfold Pl.sizeF
  rw [if_pos hp]
  unfold Pl.nod
  have := h.1
  have := h.2
  omega
theorem nxN_inj {p : Pl} (hp : p.ok) {n m : Int} (h : InR p n) (g : InR p m) (e : nxN p n = nxN p m) : n = m := by
  have h1 := nx_in hp h
  have h2 := nx_in hp g
  have h3 := nx_eq hp h
  have h4 := nx_eq hp g
  unfold nxN at e
  omega
theorem nxN_pos {p : Pl} (hp : p.ok) {n : Int} (h : InR p n) : nxN p n ≠ 0 := by
  have h1 := nx_in hp h
  unfold nxN
  omega
theorem head_zero {p : Pl} (hp : p.ok) : p.headF = 0 := by unfold Pl.headF; rw [if_pos hp]
theorem size_pos {p : Pl} (hp : p.ok) : 1 ≤ p.sizeF ∧ p.sizeF ≤ 5275777 := by
  unfold Pl.sizeF
  rw [if_pos hp]
  have h1 := Pl.nod_in hp (x := p.n) (by have := hp.1; omega) (Int.le_refl _)
  omega

/-! Memories. -/
structure Mg (p : Pl) (M : MS) : Prop where
  n : M.n = 1
  s : M.sz 0 = p.sizeF.toNat
  e : M.ep 0 = 1#64
theorem Mg.done {p : Pl} {M : MS} (h : Mg p M) (r op at_ : Int) (a b : BitVec 64) : Mg p (M.done r op at_ a b) := ⟨h.n, h.s, h.e⟩
theorem Mg.ok {p : Pl} {M : MS} (h : Mg p M) {op at_ : Int} (h1 : 0 ≤ at_) (h2 : at_ < p.sizeF) (h3 : 0 ≤ op) (h4 : op ≤ 3) : DoOk M 0 1#64 op at_ := by
  refine ⟨⟨by omega, by rw [h.n]; omega, ?_⟩, h1, ?_, h3, h4⟩
  · exact h.e
  · show at_ < (M.sz 0 : Int)
    rw [h.s]
    omega
theorem wd_done (M : MS) (op at_ : Int) (a b : BitVec 64) (j : Nat) : (M.done 0 op at_ a b).wd 0 j = if j = at_.toNat then nextW op (M.wd 0 at_.toNat) a b else M.wd 0 j := by
  show (if (0 : Nat) = (0 : Int).toNat ∧ j = at_.toNat then _ else _) = _
  by_cases h : j = at_.toNat <;> simp [h]
theorem wd_load (M : MS) (at_ : Int) (a b : BitVec 64) (j : Nat) : (M.done 0 0 at_ a b).wd 0 j = M.wd 0 j := by
  rw [wd_done]
  split
  · rename_i h
    rw [h]
    rfl
  · rfl
theorem wd_store (M : MS) (at_ : Int) (a b : BitVec 64) (j : Nat) : (M.done 0 1 at_ a b).wd 0 j = if j = at_.toNat then a else M.wd 0 j := by
  rw [wd_done]
  rfl
theorem wd_swap (M : MS) (at_ : Int) (a b : BitVec 64) (j : Nat) : (M.done 0 2 at_ a b).wd 0 j = if j = at_.toNat then (if M.wd 0 at_.toNat = a then b else M.wd 0 at_.toNat) else M.wd 0 j := by
  rw [wd_done]
  congr 1
  unfold nextW
  by_cases h : M.wd 0 at_.toNat = a <;> simp [h]

/-! The list. -/
def nmL : List Int → BitVec 64
  | [] => 0#64
  | n :: _ => nameW n
def Ch (p : Pl) (M : MS) : List Int → Prop
  | [] => True
  | n :: l => M.wd 0 (nxN p n) = nmL l ∧ Ch p M l
theorem Ch.congr {p : Pl} {M M' : MS} : ∀ {l : List Int}, (∀ n ∈ l, M'.wd 0 (nxN p n) = M.wd 0 (nxN p n)) → Ch p M l → Ch p M' l
  | [], _, _ => trivial
  | n :: l, h, hc => ⟨(h n (by simp)).trans hc.1, Ch.congr (fun m hm => h m (by simp [hm])) hc.2⟩
structure FL (p : Pl) (M : MS) (l : List Int) (T : Nat) : Prop where
  mg : Mg p M
  hd : ndW (M.wd 0 0) = nmL l
  tg : U (tagW (M.wd 0 0)) = T
  ch : Ch p M l
  nd : l.Nodup
  rg : ∀ n ∈ l, InR p n
theorem nmL_lt {p : Pl} (hp : p.ok) {l : List Int} (h : ∀ n ∈ l, InR p n) : U (nmL l) < 2097152 := by
  cases l with
  | nil => rw [nmL, U_0]; omega
  | cons n l =>
    have h1 := h n (by simp)
    have h2 := h1.lt hp
    rw [nmL, U_nameW h1.1 (by omega)]
    omega

/-! A thread's states, and the programs that they are. -/
inductive PS : Type
  | pl : PS
  | pn (h : BitVec 64) : PS
  | ps (h nx : BitVec 64) : PS
  | ql (n : Int) : PS
  | qs (n : Int) (h : BitVec 64) : PS
  | qw (n : Int) (h : BitVec 64) : PS
  | dn (r : Int) : PS
def trT (p : Pl) (N : Nat) : PS → Tr Int
  | .pl => popT p (N + 1)
  | .pn h => (getT (p.nxF (nodeI (ndW h)))).bind fun nx => swT p h nx (nodeI (ndW h)) (popT p N)
  | .ps h nx => swT p h nx (nodeI (ndW h)) (popT p N)
  | .ql n => pushT p n (N + 1)
  | .qs n h => push1T p n (pushT p n N) h
  | .qw n h => swT p h (nameW n) n (pushT p n N)
  | .dn r => .done r
/-- One step. -/
def StepT (p : Pl) (M : MS) (N : Nat) (s : PS) (M' : MS) (N' : Nat) (s' : PS) : Prop :=
  ∃ a f, trT p N s = .ask a f ∧ DoOk M 0 1#64 a.op a.at_ ∧ M' = M.done 0 a.op a.at_ a.a a.b ∧ f (M.wd (0 : Int).toNat a.at_.toNat) = trT p N' s'
theorem runT_step {p : Pl} {M M' : MS} {N N' : Nat} {s s' : PS} (h : StepT p M N s M' N' s') (k : Nat) : runT 0 1#64 (k + 1) (trT p N s) M = (runT 0 1#64 k (trT p N' s') M').map (fun x => (x.1, x.2.1 + 1, x.2.2)) := by
  obtain ⟨a, f, h1, h2, rfl, h4⟩ := h
  rw [h1, runT, if_pos h2, h4]
/-- The word was the head's, and if the tag is still that one, it is. -/
def HW (M : MS) (T : Nat) (h : BitVec 64) : Prop := h = M.wd 0 0 ∨ U (tagW h) < T
/-- What holds of a thread in its state. -/
def Th (p : Pl) (M : MS) (T : Nat) : PS → Prop
  | .pl => True
  | .pn h => HW M T h ∧ ∃ n, InR p n ∧ ndW h = nameW n
  | .ps h nx => HW M T h ∧ ∃ n, InR p n ∧ ndW h = nameW n ∧ (h = M.wd 0 0 → nx = M.wd 0 (nxN p n))
  | .ql n => InR p n
  | .qs n h => InR p n ∧ HW M T h
  | .qw n h => InR p n ∧ HW M T h ∧ M.wd 0 (nxN p n) = ndW h
  | .dn _ => True
/-- The node that it pushes. -/
def PS.node : PS → Option Int
  | .ql n => some n
  | .qs n _ => some n
  | .qw n _ => some n
  | _ => none
/-- What a step leaves to others: the head is as it was, or its tag has risen; no NEXT has turned but of a node w. -/
structure Eff (p : Pl) (M : MS) (T : Nat) (M' : MS) (T' : Nat) (w : Option Int) : Prop where
  hd : (M'.wd 0 0 = M.wd 0 0 ∧ T' = T) ∨ T' = T + 1
  nx : ∀ n, InR p n → w ≠ some n → M'.wd 0 (nxN p n) = M.wd 0 (nxN p n)

theorem Th.frame {p : Pl} (hp : p.ok) {M M' : MS} {l l' : List Int} {T T' : Nat} {w : Option Int} {s : PS} (hL : FL p M l T) (hL' : FL p M' l' T') (hE : Eff p M T M' T' w) (hw : ∀ n, w = some n → n ∉ l ∧ s.node ≠ some n) (h : Th p M T s) : Th p M' T' s := by
  have hHW : ∀ x, HW M T x → HW M' T' x := fun x hx => by
    rcases hE.hd with ⟨h1, h2⟩ | h1
    · unfold HW; rw [h1, h2]; exact hx
    · refine .inr ?_
      rcases hx with rfl | hx
      · rw [hL.tg]; omega
      · omega
  have hold : ∀ x, HW M T x → x = M'.wd 0 0 → M'.wd 0 0 = M.wd 0 0 := fun x hx e => by
    rcases hE.hd with ⟨h1, _⟩ | h1
    · exact h1
    · exfalso
      have h2 := hL'.tg
      rw [← e] at h2
      rcases hx with rfl | hx
      · have h3 := hL.tg
        omega
      · omega
  cases s with
  | pl => trivial
  | pn x => exact ⟨hHW x h.1, h.2⟩
  | ps x nx =>
    obtain ⟨h1, n, h2, h3, h4⟩ := h
    refine ⟨hHW x h1, n, h2, h3, fun e => ?_⟩
    have e1 := hold x h1 e
    have e2 := h4 (e.trans e1)
    rw [e2]
    refine (hE.nx n h2 fun hwn => ?_).symm
    have hnl := (hw n hwn).1
    have h5 := hL.hd
    rw [← e1, ← e, h3] at h5
    cases l with
    | nil => exact nameW_ne0 h2.1 (by have := h2.lt hp; omega) h5
    | cons m l =>
      have hm := hL.rg m (by simp)
      have : n = m := name_inj h2.1 (by have := h2.lt hp; omega) hm.1 (by have := hm.lt hp; omega) h5
      subst this
      exact hnl (by simp)
  | ql n => exact h
  | qs n x => exact ⟨h.1, hHW x h.2⟩
  | qw n x =>
    refine ⟨h.1, hHW x h.2.1, ?_⟩
    rw [← h.2.2]
    exact hE.nx n h.1 fun hwn => (hw n hwn).2 rfl
  | dn r => trivial

theorem Eff.same {p : Pl} {M M' : MS} {T : Nat} {w : Option Int} (h : ∀ j, M'.wd 0 j = M.wd 0 j) : Eff p M T M' T w := ⟨.inl ⟨h 0, rfl⟩, fun _ _ _ => h _⟩
theorem FL.same {p : Pl} {M M' : MS} {l : List Int} {T : Nat} (h : FL p M l T) (hm : Mg p M') (hs : ∀ j, M'.wd 0 j = M.wd 0 j) : FL p M' l T :=
  ⟨hm, by rw [hs]; exact h.hd, by rw [hs]; exact h.tg, h.ch.congr fun n _ => hs _, h.nd, h.rg⟩

/-- What a step may come to. -/
structure Nxt (p : Pl) (M : MS) (l : List Int) (T : Nat) (N : Nat) (s : PS) (M' : MS) (l' : List Int) (T' : Nat) (N' : Nat) (s' : PS) : Prop where
  st : StepT p M N s M' N' s'
  fl : FL p M' l' T'
  th : Th p M' T' s'
  ef : Eff p M T M' T' s.node
  N0 : N ≤ N' + 1
  T0 : T' ≤ T + 1

section
variable {p : Pl} (hp : p.ok) {M : MS} {l : List Int} {T N : Nat} (hL : FL p M l T)
include hp hL
theorem go_pl : ∃ M' s', Nxt p M l T N .pl M' l T N s' ∧ (l = [] → s' = .dn (-1)) ∧ (l ≠ [] → s' = .pn (M.wd 0 0)) ∧ (∀ j, M'.wd 0 j = M.wd 0 j) := by
  have hz := head_zero hp
  have hok : DoOk M 0 1#64 0 p.headF := by rw [hz]; exact hL.mg.ok (by omega) (by have := size_pos hp; omega) (by omega) (by omega)
  have hw := wd_load M p.headF 0#64 0#64
  have hm := hL.mg.done 0 0 p.headF 0#64 0#64
  have hfl := hL.same hm hw
  have hst : ∀ s', pop1T p (popT p N) (M.wd 0 0) = trT p N s' → StepT p M N .pl (M.done 0 0 p.headF 0#64 0#64) N s' := fun s' e => ⟨ldA p.headF, fun x => pop1T p (popT p N) x, rfl, hok, rfl, by
    rw [← e]
    show pop1T p _ (M.wd 0 p.headF.toNat) = _
    rw [hz]
    rfl⟩
  cases l with
  | nil =>
    refine ⟨_, .dn (-1), ⟨hst _ ?_, hfl, trivial, Eff.same hw, by omega, by omega⟩, fun _ => rfl, fun h => absurd rfl h, hw⟩
    unfold pop1T
    have h0 : ndW (M.wd 0 0) = 0#64 := hL.hd
    rw [if_pos h0]
    rfl
  | cons n l =>
    have hn := hL.rg n (by simp)
    have h0 : ndW (M.wd 0 0) ≠ 0#64 := by rw [hL.hd]; exact nameW_ne0 hn.1 (by have := hn.lt hp; omega)
    refine ⟨_, .pn (M.wd 0 0), ⟨hst _ ?_, hfl, ⟨.inl (hw 0).symm, n, hn, hL.hd⟩, Eff.same hw, by omega, by omega⟩, fun h => by simp at h, fun _ => rfl, hw⟩
    unfold pop1T
    rw [if_neg h0]
    rfl
theorem go_pn {h : BitVec 64} (ht : Th p M T (.pn h)) : ∃ M' nx, Nxt p M l T N (.pn h) M' l T N (.ps h nx) ∧ (∀ j, M'.wd 0 j = M.wd 0 j) := by
  obtain ⟨h1, n, h2, h3⟩ := ht
  have e : nodeI (ndW h) = n := by rw [h3, node_name h2.1 (by have := h2.lt hp; omega)]
  have hx := nx_in hp h2
  have hok : DoOk M 0 1#64 0 (p.nxF n) := hL.mg.ok (by omega) hx.2 (by omega) (by omega)
  have hw := wd_load M (p.nxF n) 0#64 0#64
  refine ⟨M.done 0 0 (p.nxF n) 0#64 0#64, M.wd 0 (nxN p n), ⟨⟨ldA (p.nxF n), fun x => swT p h x n (popT p N), ?_, hok, rfl, ?_⟩, hL.same (hL.mg.done _ _ _ _ _) hw, ⟨?_, n, h2, h3, fun _ => (hw _).symm⟩, Eff.same hw, by omega, by omega⟩, hw⟩
  · show (getT _).bind _ = _
    rw [e]
    rfl
  · show swT p h _ n _ = swT p h _ (nodeI (ndW h)) _
    rw [e]
    rfl
  · unfold HW
    rw [hw]
    exact h1
theorem go_ps (hT : T < 8796093022207) {h nx : BitVec 64} (ht : Th p M T (.ps h nx)) : ∃ M' l' T' N' s', Nxt p M l T (N + 1) (.ps h nx) M' l' T' N' s' ∧ ((∃ n, l = n :: l' ∧ s' = .dn n ∧ T' = T + 1 ∧ h = M.wd 0 0) ∨ (l' = l ∧ s' = .pl ∧ T' = T ∧ h ≠ M.wd 0 0)) := by
  obtain ⟨h1, n, h2, h3, h4⟩ := ht
  have e : nodeI (ndW h) = n := by rw [h3, node_name h2.1 (by have := h2.lt hp; omega)]
  have hz := head_zero hp
  have hok : DoOk M 0 1#64 2 p.headF := by rw [hz]; exact hL.mg.ok (by omega) (by have := size_pos hp; omega) (by omega) (by omega)
  have hw := wd_swap M p.headF h (folW h nx)
  rw [hz] at hw
  have hm := hL.mg.done 0 2 p.headF h (folW h nx)
  have hst : ∀ N' s', sw1T n (popT p (N + 1)) (M.wd 0 0 == h) = trT p N' s' → StepT p M (N + 1) (.ps h nx) (M.done 0 2 p.headF h (folW h nx)) N' s' := fun N' s' ee => ⟨swA p.headF h (folW h nx), fun z => sw1T (nodeI (ndW h)) (popT p (N + 1)) (z == h), rfl, hok, rfl, by
    rw [← ee, e]
    show sw1T n _ (M.wd 0 p.headF.toNat == h) = _
    rw [hz]
    rfl⟩
  by_cases hh : h = M.wd 0 0
  · have hnx := h4 hh
    have hc := hL.hd
    rw [← hh, h3] at hc
    cases l with
    | nil => exact absurd hc (nameW_ne0 h2.1 (by have := h2.lt hp; omega))
    | cons m l =>
      have hmr := hL.rg m (by simp)
      have : n = m := name_inj h2.1 (by have := h2.lt hp; omega) hmr.1 (by have := hmr.lt hp; omega) hc
      subst this
      have hcl := hL.ch.1
      rw [← hnx] at hcl
      have hrg : ∀ k ∈ l, InR p k := fun k hk => hL.rg k (by simp [hk])
      have w0 : (M.done 0 2 p.headF h (folW h nx)).wd 0 0 = folW h nx := by
        rw [hz]
        rw [hw 0]
        simp [hh]
      have wn : ∀ k, InR p k → (M.done 0 2 p.headF h (folW h nx)).wd 0 (nxN p k) = M.wd 0 (nxN p k) := fun k hk => by
        rw [hz]
        rw [hw, if_neg (by simpa using nxN_pos hp hk)]
      refine ⟨_, l, T + 1, N + 1, .dn n, ⟨hst _ _ ?_, ⟨hm, ?_, ?_, hL.ch.2.congr fun k hk => wn k (hrg k hk), hL.nd.of_cons, hrg⟩, trivial, ⟨.inr rfl, fun k hk _ => wn k hk⟩, by omega, by omega⟩, .inl ⟨n, rfl, rfl, rfl, hh⟩⟩
      · rw [hh]
        simp [sw1T, trT]
      · rw [w0, nd_fol _ _ (by rw [hcl]; exact nmL_lt hp hrg), hcl]
      · have := hL.tg
        rw [← hh] at this
        rw [w0, tag_fol _ _ (by omega), this]
        omega
  · have hsame : ∀ j, (M.done 0 2 p.headF h (folW h nx)).wd 0 j = M.wd 0 j := fun j => by
      rw [hz, hw]
      split
      · rename_i hj
        rw [hj, if_neg (fun e => hh e.symm)]
      · rfl
    refine ⟨_, l, T, N, .pl, ⟨hst _ _ ?_, hL.same hm hsame, trivial, Eff.same hsame, by omega, by omega⟩, .inr ⟨rfl, rfl, rfl, hh⟩⟩
    have : (M.wd 0 0 == h) = false := beq_eq_false_iff_ne.2 fun e => hh e.symm
    rw [this]
    simp [sw1T, trT]
theorem go_ql {n : Int} (hn : InR p n) : ∃ M' h, Nxt p M l T N (.ql n) M' l T N (.qs n h) ∧ h = M.wd 0 0 ∧ (∀ j, M'.wd 0 j = M.wd 0 j) := by
  have hz := head_zero hp
  have hok : DoOk M 0 1#64 0 p.headF := by rw [hz]; exact hL.mg.ok (by omega) (by have := size_pos hp; omega) (by omega) (by omega)
  have hw := wd_load M p.headF 0#64 0#64
  have hq : p.nxF n ≠ -1 := by have := nx_in hp hn; omega
  refine ⟨M.done 0 0 p.headF 0#64 0#64, M.wd 0 0, ⟨⟨ldA p.headF, fun x => push1T p n (pushT p n N) x, ?_, hok, rfl, ?_⟩, hL.same (hL.mg.done _ _ _ _ _) hw, ⟨hn, .inl (hw 0).symm⟩, Eff.same hw, by omega, by omega⟩, rfl, hw⟩
  · show pushT p n (N + 1) = _
    rw [pushT, if_neg hq]
    rfl
  · show push1T p n _ (M.wd 0 p.headF.toNat) = _
    rw [hz]
    rfl
theorem go_qs {n : Int} {h : BitVec 64} (ht : Th p M T (.qs n h)) (hnl : n ∉ l) : ∃ M', Nxt p M l T N (.qs n h) M' l T N (.qw n h) ∧ M'.wd 0 0 = M.wd 0 0 := by
  obtain ⟨hn, h1⟩ := ht
  have hx := nx_in hp hn
  have hok : DoOk M 0 1#64 1 (p.nxF n) := hL.mg.ok (by omega) hx.2 (by omega) (by omega)
  have hw := wd_store M (p.nxF n) (ndW h) 0#64
  have h0 : (M.done 0 1 (p.nxF n) (ndW h) 0#64).wd 0 0 = M.wd 0 0 := by rw [hw, if_neg (fun e => nxN_pos hp hn e.symm)]
  have hne : ∀ k, InR p k → k ≠ n → (M.done 0 1 (p.nxF n) (ndW h) 0#64).wd 0 (nxN p k) = M.wd 0 (nxN p k) := fun k hk hkn => by
    rw [hw]
    exact if_neg fun e => hkn (nxN_inj hp hk hn e)
  refine ⟨M.done 0 1 (p.nxF n) (ndW h) 0#64, ⟨⟨stA (p.nxF n) (ndW h), fun _ => swT p h (nameW n) n (pushT p n N), rfl, hok, rfl, rfl⟩, ⟨hL.mg.done _ _ _ _ _, by rw [h0]; exact hL.hd, by rw [h0]; exact hL.tg, hL.ch.congr fun k hk => hne k (hL.rg k hk) (fun e => hnl (e ▸ hk)), hL.nd, hL.rg⟩, ⟨hn, ?_, ?_⟩, ⟨.inl ⟨h0, rfl⟩, fun k hk hkn => hne k hk (fun e => hkn (by rw [e]; rfl))⟩, by omega, by omega⟩, h0⟩
  · unfold HW
    rw [h0]
    exact h1
  · rw [hw]
    exact if_pos rfl
theorem go_qw (hT : T < 8796093022207) {n : Int} {h : BitVec 64} (ht : Th p M T (.qw n h)) (hnl : n ∉ l) : ∃ M' l' T' N' s', Nxt p M l T (N + 1) (.qw n h) M' l' T' N' s' ∧ ((l' = n :: l ∧ s' = .dn n ∧ T' = T + 1 ∧ h = M.wd 0 0) ∨ (l' = l ∧ s' = .ql n ∧ T' = T ∧ h ≠ M.wd 0 0)) := by
  obtain ⟨hn, h1, h2⟩ := ht
  have hz := head_zero hp
  have hok : DoOk M 0 1#64 2 p.headF := by rw [hz]; exact hL.mg.ok (by omega) (by have := size_pos hp; omega) (by omega) (by omega)
  have hw := wd_swap M p.headF h (folW h (nameW n))
  rw [hz] at hw
  have hm := hL.mg.done 0 2 p.headF h (folW h (nameW n))
  have hst : ∀ N' s', sw1T n (pushT p n (N + 1)) (M.wd 0 0 == h) = trT p N' s' → StepT p M (N + 1) (.qw n h) (M.done 0 2 p.headF h (folW h (nameW n))) N' s' := fun N' s' ee => ⟨swA p.headF h (folW h (nameW n)), fun z => sw1T n (pushT p n (N + 1)) (z == h), rfl, hok, rfl, by
    rw [← ee]
    show sw1T n _ (M.wd 0 p.headF.toNat == h) = _
    rw [hz]
    rfl⟩
  by_cases hh : h = M.wd 0 0
  · have w0 : (M.done 0 2 p.headF h (folW h (nameW n))).wd 0 0 = folW h (nameW n) := by
      rw [hz]
      rw [hw 0]
      simp [hh]
    have wn : ∀ k, InR p k → (M.done 0 2 p.headF h (folW h (nameW n))).wd 0 (nxN p k) = M.wd 0 (nxN p k) := fun k hk => by
      rw [hz]
      rw [hw, if_neg (by simpa using nxN_pos hp hk)]
    refine ⟨_, n :: l, T + 1, N + 1, .dn n, ⟨hst _ _ ?_, ⟨hm, ?_, ?_, ⟨?_, hL.ch.congr fun k hk => wn k (hL.rg k hk)⟩, List.nodup_cons.2 ⟨hnl, hL.nd⟩, fun k hk => ?_⟩, trivial, ⟨.inr rfl, fun k hk _ => wn k hk⟩, by omega, by omega⟩, .inl ⟨rfl, rfl, rfl, hh⟩⟩
    · rw [hh]
      simp [sw1T, trT]
    · rw [w0, nd_fol _ _ (by rw [U_nameW hn.1 (by have := hn.lt hp; omega)]; have := hn.lt hp; omega)]
      rfl
    · have := hL.tg
      rw [← hh] at this
      rw [w0, tag_fol _ _ (by omega), this]
      omega
    · rw [wn n hn, h2, hh]
      exact hL.hd
    · rcases List.mem_cons.1 hk with rfl | hk
      · exact hn
      · exact hL.rg k hk
  · have hsame : ∀ j, (M.done 0 2 p.headF h (folW h (nameW n))).wd 0 j = M.wd 0 j := fun j => by
      rw [hz, hw]
      split
      · rename_i hj
        rw [hj, if_neg (fun e => hh e.symm)]
      · rfl
    refine ⟨_, l, T, N, .ql n, ⟨hst _ _ ?_, hL.same hm hsame, hn, Eff.same hsame, by omega, by omega⟩, .inr ⟨rfl, rfl, rfl, hh⟩⟩
    have : (M.wd 0 0 == h) = false := beq_eq_false_iff_ne.2 fun e => hh e.symm
    rw [this]
    simp [sw1T, trT]
end
end Go.Proofs.YtpidmbclgfnekaaGreat

/-
  What the calls of Then come to (NU). Conditions: those of each theorem.
-/
namespace Go.Proofs.YtpidmbclgfnekaaGreat
open Go Go.RowKit

end Go.Proofs.YtpidmbclgfnekaaGreat

/-
  What the calls of Then come to (UU). Conditions: those of each theorem.
-/
namespace Go.Proofs.YtpidmbclgfnekaaGreat
open Go Go.RowKit

end Go.Proofs.YtpidmbclgfnekaaGreat

/-
  Hazards: the words, and the programs Set, Clear, Held and Guard, as trees. No conditions but those of each theorem.
-/
namespace Go.Proofs.YtpidmbclgfnekaaGreat
open Go Go.RowKit

theorem U_nameH {n : Int} (h0 : -1 ≤ n) (h1 : n < 4611686018427387904) : U (nameW n) = n + 1 := by
  rw [U_toNat]
  unfold nameW
  rw [BitVec.toNat_ofNat]
  omega
theorem nameH_inj {n m : Int} (h0 : -1 ≤ n) (h1 : n < 4611686018427387904) (g0 : -1 ≤ m) (g1 : m < 4611686018427387904) (e : nameW n = nameW m) : n = m := by
  have h := U_nameH h0 h1
  rw [e, U_nameH g0 g1] at h
  omega
theorem nameH_none : nameW (-1) = 0#64 := U_inj ((U_nameH (by omega) (by omega)).trans (by rw [U_0]; rfl))
/-- Does a hazard of the word x name the node n? -/
def nmB (x : BitVec 64) (n : Int) : Bool := decide (0 ≤ n) && (x == nameW n)
/-- Clear, from a slot on, of which k are left. -/
def clrT (p : Pl) (t : Int) : Nat → Int → Tr Unit
  | 0, _ => .done ()
  | k + 1, s => (setT (p.hazF t s) 0#64).bind fun _ => clrT p t k (s + 1)
/-- Held, from the hazard i on (all threads' in a row), behind which k are left. -/
def hldT (p : Pl) (n : Int) : Nat → Int → Tr Bool
  | 0, i => (getT (p.hazF (i / 3) (i % 3))).bind fun x => if nmB x n then .done true else .done false
  | k + 1, i => (getT (p.hazF (i / 3) (i % 3))).bind fun x => if nmB x n then .done true else hldT p n k (i + 1)
/-- What a Guard does with a word that it has loaded; behind the hazard's store; up to so many turns. -/
def ldT (at_ : Int) (goOn : BitVec 64 → Tr (BitVec 64)) (x : BitVec 64) : Tr (BitVec 64) := (getT at_).bind fun y => if y = x then .done x else goOn y
def gonT (p : Pl) (t s at_ : Int) (sh : Nat) : Nat → BitVec 64 → Tr (BitVec 64)
  | 0, x => if x >>> sh = 0#64 then .done x else .more
  | N + 1, x => if x >>> sh = 0#64 then .done x else (setT (p.hazF t s) (x >>> sh)).bind fun _ => ldT at_ (gonT p t s at_ sh N) x
def grdT (p : Pl) (t s at_ : Int) (sh N : Nat) : Tr (BitVec 64) := (getT at_).bind (gonT p t s at_ sh N)
end Go.Proofs.YtpidmbclgfnekaaGreat

/-
  What List makes, as a tree whose answers nobody looks at. Conditions: those of each theorem.
-/
namespace Go.Proofs.YtpidmbclgfnekaaGreat
open Go Go.RowKit

/-- A slice of words, by the blocks of F alone. -/
def nF (F : Nat → Prop) : Nat → Prop := fun k => ¬ F k
theorem cell_agr {F : Nat → Prop} {w w' : World} (ha : Agr F w w') {b : Nat} (hb : ¬ nF F b) (o : Nat) : w'.cell? ⟨b, o, none⟩ = w.cell? ⟨b, o, none⟩ := by
  simp [World.cell?, ha b (Classical.not_not.1 hb)]
theorem lt_agr {F : Nat → Prop} {w w' : World} (ha : Agr F w w') {b : Nat} (hb : ¬ nF F b) (hl : b < w.heap.size) : b < w'.heap.size := by
  have h0 : w.heap[b]? = some w.heap[b] := Array.getElem?_eq_getElem hl
  exact heap_lt ((ha b (Classical.not_not.1 hb)).trans h0)
theorem UsB.agr {F : Nat → Prop} {w w' : World} {v : Value} {l : List (BitVec 64)} (h : UsB (nF F) w v l) (ha : Agr F w w') : UsB (nF F) w' v l := by
  obtain ⟨a0, cap, e, hc, hr⟩ := h
  refine ⟨a0, cap, e, hc, fun hl => ?_⟩
  obtain ⟨b, off, ea, h0, hlt, hcell⟩ := hr hl
  exact ⟨b, off, ea, h0, lt_agr ha h0 hlt, fun i hi => (cell_agr ha h0 _).trans (hcell i hi)⟩
theorem AsB.agr {F : Nat → Prop} {w w' : World} {v : Value} {l : List Acc} (h : AsB (nF F) w v l) (ha : Agr F w w') : AsB (nF F) w' v l := by
  obtain ⟨a0, cap, e, hc, hr⟩ := h
  refine ⟨a0, cap, e, hc, fun hl => ?_⟩
  obtain ⟨b, o, ea, h0, hlt, hcell⟩ := hr hl
  refine ⟨b, o, ea, h0, lt_agr ha h0 hlt, fun i hi => ?_⟩
  rw [cell_agr ha h0, cell_agr ha h0, cell_agr ha h0, cell_agr ha h0]
  exact hcell i hi
theorem Told.agr {F : Nat → Prop} {w w' : World} (ha : Agr F w w') : ∀ {r : List (BitVec 64)} {v : Value}, Told (nF F) w r v → Told (nF F) w' r v
  | [], _, h => h
  | _ :: _, _, ⟨g, p, e, h0, hlt, c0, c1, h⟩ => ⟨g, p, e, h0, lt_agr ha h0 hlt, (cell_agr ha h0 _).trans c0, (cell_agr ha h0 _).trans c1, Told.agr ha h⟩
theorem UsB.moreN {D E : Nat → Prop} {w : World} {v : Value} {l : List (BitVec 64)} (h : UsB D w v l) (he : ∀ k, k < w.heap.size → E k → D k) : UsB E w v l := by
  obtain ⟨a0, cap, e, hc, hr⟩ := h
  refine ⟨a0, cap, e, hc, fun hl => ?_⟩
  obtain ⟨b, o, ea, h0, hlt, hcell⟩ := hr hl
  exact ⟨b, o, ea, fun x => h0 (he b hlt x), hlt, hcell⟩
/-- What isn't of D is of F. -/
theorem nF_of {D F : Nat → Prop} {n : Nat} (h : ∀ k, k < n → ¬ D k → F k) : ∀ k, k < n → nF F k → D k := fun k hk hn => Classical.byContradiction fun x => hn (h k hk x)
/-- The blocks that may turn, where w stands: all old ones but those of F. -/
def oF (F : Nat → Prop) (w : World) : Nat → Prop := fun k => k < w.heap.size ∧ ¬ F k
theorem oF_of {F : Nat → Prop} {w : World} : ∀ k, k < w.heap.size → oF F w k → nF F k := fun _ _ h => h.2

/-- v stands in w for a list's program of which the accesses l are left, by the blocks of F alone. -/
def PA : List Acc → List (BitVec 64) → (Nat → Prop) → Value → World → Prop
  | [], t => fun F v w => ∃ rv, v = pV rv accZ .nilFunc (.pointer none) ∧ UsB (nF F) w rv t
  | a :: l, t => fun F v w => ∃ g caps, v = pV (.slice none 0 0) a (.func (.func g) #[] caps) (.pointer none) ∧ Enters g ∧ ∀ (x : BitVec 64) (w' : World), Agr F w w' → Calls Tryz.prog g (#[.int .u64 (U x)] ++ caps) w' (RetP (PA l (t ++ [x])) F w')
theorem PA.agr {l : List Acc} {t : List (BitVec 64)} {F : Nat → Prop} {v : Value} {w w' : World} (h : PA l t F v w) (ha : Agr F w w') : PA l t F v w' := by
  cases l with
  | nil => obtain ⟨rv, e, hu⟩ := h; exact ⟨rv, e, hu.agr ha⟩
  | cons a l => obtain ⟨g, caps, e, he, hc⟩ := h; exact ⟨g, caps, e, he, fun x u hu => hc x u (ha.trans hu)⟩
theorem PA.shape {l : List Acc} {t : List (BitVec 64)} {F : Nat → Prop} {v : Value} {w : World} (h : PA l t F v w) : ∃ sa n c a fn, v = pV (.slice sa n c) a fn (.pointer none) ∧ (fn = .nilFunc ∨ ∃ g caps, fn = .func (.func g) #[] caps) := by
  cases l with
  | nil =>
    obtain ⟨rv, rfl, hu⟩ := h
    obtain ⟨a0, cap, rfl, _⟩ := hu
    exact ⟨_, _, _, _, _, rfl, .inl rfl⟩
  | cons a l => obtain ⟨g, caps, rfl, _⟩ := h; exact ⟨_, _, _, _, _, rfl, .inr ⟨g, caps, rfl⟩⟩

theorem listedP_none (F : Nat → Prop) (t : List (BitVec 64)) (v lv : Value) (w : World) (hT : Told (nF F) w t.reverse v) (hA : AsB (nF F) w lv []) (hl : t.length ≤ 1000) :
    Calls Tryz.prog 202 #[v, lv] w (RetP (PA [] t) F w) := by
  refine (listed_none (oF F w) t v lv w (hT.more oF_of) (hA.more oF_of) hl (fun _ h => h.1)).mono ?_
  rintro e w' ⟨v', rfl, hx, rv, e2, hu⟩
  refine ⟨v', fun k => k < w'.heap.size ∧ ¬ oF F w k, rfl, hx, ⟨rv, e2, hu.moreN (nF_of fun k hk hn => ⟨hk, hn⟩)⟩, fun _ h => h.1, fun j hj => ?_⟩
  by_cases h : F j
  · exact .inl h
  · exact .inr (Nat.le_of_not_lt fun hlt => hj.2 ⟨hlt, h⟩)
set_option maxRecDepth 8000 in
set_option maxHeartbeats 1000000 in
theorem listed1P (F : Nat → Prop) (x : BitVec 64) (a : Acc) (l : List Acc) (t : List (BitVec 64)) (v lv : Value) (B1 B2 : Nat) (w : World) (hT : Told (nF F) w t.reverse v) (hA : AsB (nF F) w lv (a :: l)) (d1 : w.cell? ⟨B1, 0, none⟩ = some v) (d2 : w.cell? ⟨B2, 0, none⟩ = some lv)
    (hl : t.length + l.length ≤ 999)
    (IH : Hid (∀ (F : Nat → Prop) (t : List (BitVec 64)) v lv w, Told (nF F) w t.reverse v → AsB (nF F) w lv l → t.length + l.length ≤ 1000 → Bnd F w → Calls Tryz.prog 202 #[v, lv] w (RetP (PA l t) F w))) :
    Calls Tryz.prog 208 #[.int .u64 (U x), .pointer (some ⟨B1, 0, none⟩), .pointer (some ⟨B2, 0, none⟩)] w (RetP (PA l (t ++ [x])) F w) := by
  replace hT := hT.more (oF_of (F := F) (w := w))
  replace hA := hA.more (oF_of (F := F) (w := w))
  have hb : ∀ k, oF F w k → k < w.heap.size := fun _ h => h.1
  have HA := Lib.hid hA
  obtain ⟨a0, cap, rfl, hc, _⟩ := hA
  obtain ⟨b, o, rfl, hb', hlt, hcell⟩ := HA.out.at (by simp)
  have HT := Lib.hid hT
  obtain ⟨p, rfl⟩ := hT.ptr
  have l1 := cell_lt d1
  have l2 := cell_lt d2
  clear hT hcell
  have l1' : B1 < w.heap.size + 1 := by omega
  have l2' : B2 < w.heap.size + 1 := by omega
  simp only [List.length_cons] at hc d2
  have HA' : Hid (AsB (oF F w) w (.slice (some ⟨b, o, none⟩) (l.length + 1) cap) (a :: l)) := HA
  clear HA
  go_enter Tryz.func208, Tryz.ntmps208
  go_wp2
  generalize hW : w.alloc _ = W
  refine wp_region_mix (fun w' => ∃ s, w' = over W s) [(0, [0, 1, 4, 5]), (1, [2]), (1, [3]), (1, [6]), (2, [7])] (by kernel_rfl) (by kernel_rfl) (over_of (ext_drew (ext_refl W))) ?_
  simp only [pieces, pickL, List.map_cons, List.map_nil, List.getD_cons_zero, List.getD_cons_succ]
  refine mix_reads ?_
  have k1 : W.cell? ⟨B1, 0, none⟩ = some (.pointer p) := by rw [← hW]; exact ext_cell (ext_alloc _ (ext_refl w)) d1
  have k2 : W.cell? ⟨B2, 0, none⟩ = some (.slice (some ⟨b, o, none⟩) (l.length + 1) cap) := by rw [← hW]; exact ext_cell (ext_alloc _ (ext_refl w)) d2
  have m1 := cell_lt k1
  have m2 := cell_lt k2
  repeat (go_big_quiet_step (fail))
  have hva : ∃ va, va = (if cap = 1 then some (⟨b, o, none⟩ : Addr) else some ⟨b, o + 4, none⟩) ∧ (0 < l.length → va = some ⟨b, o + 4, none⟩) := ⟨_, rfl, fun h => if_neg (by omega)⟩
  obtain ⟨va, eva, hva⟩ := hva
  rw [← eva]
  clear eva
  have HV : Hid (AsB (oF F w) w (.slice va l.length (cap - 1)) l) := Lib.hid (HA'.out.tail va (cap - 1) hva (by omega))
  clear hva HA'
  have HW : Hid (Ext w W) := Lib.hid (by rw [← hW]; exact ext_alloc _ (ext_refl w))
  have hB : W.heap[w.heap.size]? = some (.cells #[.slice none 0 0, .int .i64 0, .int .i64 0, .int .u64 0, .int .u64 0, .nilFunc, .pointer none] 230) := by rw [← hW]; exact heap_alloc_new _ _
  have HB := Lib.hid hB
  clear hB hW d1 d2 k1 k2 m1 m2
  refine wpQuiet_nil (mix_acts ?_)
  go_wp2
  refine mixQ_mk (over_of (ext_alloc _ (ext_drew (ext_refl W)))) (mix_acts ?_)
  have HU : Hid (Us (W.drew.alloc (.cells #[.int .u64 (U x)] 40)) (.slice (some ⟨W.heap.size, 0, none⟩) 1 1) [x]) := by
    have h0 := heap_at W.drew (.cells #[.int .u64 (U x)] 40) W.heap.size rfl
    refine Lib.hid ⟨_, 1, rfl, Nat.le_refl _, fun _ => ⟨_, 0, rfl, by simp, fun i hi => ?_⟩⟩
    have : i = 0 := by simpa using hi
    subst this
    exact cell_at h0 rfl
  have hb1 : ∀ k, (oF F w k ∨ k = w.heap.size) → k < W.heap.size := fun k hk => by
    have := heap_lt HB.out
    rcases hk with hk | rfl
    · have := hb k hk; omega
    · exact this
  have HT1' : Hid (Told (fun k => oF F w k ∨ k = w.heap.size) (W.drew.alloc (.cells #[.int .u64 (U x)] 40)) t.reverse (.pointer p)) := Lib.hid (((HT.out.more (fun k hk h => h.resolve_right (Nat.ne_of_lt hk))).ext HW.out).ext (ext_alloc (.cells #[.int .u64 (U x)] 40) (ext_drew (ext_refl W))))
  have HV' : Hid (AsB (fun k => oF F w k ∨ k = w.heap.size) w (.slice va l.length (cap - 1)) l) := Lib.hid (HV.out.more (fun k hk h => h.resolve_right (Nat.ne_of_lt hk)))
  go_wp2_with (go_at_call 209; refine (with_any (fun k => oF F w k ∨ k = w.heap.size) [x] t.reverse _ _ _ HT1'.out HU.out (by simp) (fun k hk => by have := hb1 k hk; simp; omega)).mono ?_; rintro e w1 ⟨v1, rfl, ht, hx⟩; have HT2 := Lib.hid ht; have HX1 := Lib.hid (ext_trans (ext_alloc _ (ext_drew (ext_refl W))) hx); obtain ⟨p1, rfl⟩ := ht.ptr; clear ht hx)
  refine mixQ_mk (over_of HX1.out) (mix_acts ?_)
  have HV2 := Lib.hid ((HV'.out.ext HW.out).ext HX1.out)
  have HT3 : Hid (Told (fun k => oF F w k ∨ k = w.heap.size) w1 (t ++ [x]).reverse (.pointer p1)) := by
    rw [List.reverse_append]
    exact HT2
  have hb2 : ∀ k, (oF F w k ∨ k = w.heap.size) → k < w1.heap.size := fun k hk => Nat.lt_of_lt_of_le (hb1 k hk) HX1.out.size
  have hF1 : ∀ k, k < w1.heap.size → ¬ (oF F w k ∨ k = w.heap.size) → (k < w1.heap.size ∧ ¬ (oF F w k ∨ k = w.heap.size)) := fun k hk hn => ⟨hk, hn⟩
  have HT4 := Lib.hid (HT3.out.more (nF_of hF1))
  have HV4 := Lib.hid (HV2.out.more (nF_of hF1))
  have hown := heap_lt HB.out
  have hWs := HW.out.size
  have hw1s := HX1.out.size
  clear hF1
  go_wp2_with (go_at_call 202; refine (IH.out (fun k => k < w1.heap.size ∧ ¬ (oF F w k ∨ k = w.heap.size)) (t ++ [x]) _ _ _ HT4.out HV4.out (by simp; omega) (fun _ h => h.1)).mono ?_; rintro e w2 ⟨v2, F2, rfl, hx, hp, hbn, hsub⟩; have HP := Lib.hid hp; have HBN := Lib.hid hbn; have HSUB := Lib.hid hsub; have HX2 := Lib.hid (ext_trans HX1.out hx); obtain ⟨sa, n, c, a', fn, rfl, hfn⟩ := hp.shape; have HFN := Lib.hid hfn; clear hp hx hfn hbn hsub)
  refine mixQ_mk (over_of HX2.out) (mix_late ?_)
  have hbx := (HX2.out.block w.heap.size (heap_lt HB.out)).trans HB.out
  obtain ⟨cc0, cc1, cc2, cc3, cc4, cc5, cc6, cz, ll⟩ := sev_of hbx
  have HBX := Lib.hid hbx
  clear hbx
  have HE := Lib.hid (ext_trans HW.out HX2.out)
  have hX := put7_ext (b := w.heap.size) (.slice sa n c) (.int .i64 a'.op) (.int .i64 a'.at_) (.int .u64 (U a'.a)) (.int .u64 (U a'.b)) fn (.pointer none) HE.out (Nat.le_refl _)
  have hB := put7_block (.slice sa n c) (.int .i64 a'.op) (.int .i64 a'.at_) (.int .u64 (U a'.a)) (.int .u64 (U a'.b)) fn (.pointer none) HBX.out
  have hnF : ¬ F2 w.heap.size := fun h => by
    rcases HSUB.out _ h with h | h
    · exact h.2 (.inr rfl)
    · omega
  have hP := HP.out.agr (Agr.of_put7 (w := w2) (b := w.heap.size) (.slice sa n c) (.int .i64 a'.op) (.int .i64 a'.at_) (.int .u64 (U a'.a)) (.int .u64 (U a'.b)) fn (.pointer none) hnF)
  have hS : (put7 w.heap.size (.slice sa n c) (.int .i64 a'.op) (.int .i64 a'.at_) (.int .u64 (U a'.a)) (.int .u64 (U a'.b)) fn (.pointer none) w2).heap.size = w2.heap.size := put7_size _ _ _ _ _ _ _
  have hsubF : ∀ j, F2 j → F j ∨ w.heap.size ≤ j := fun j hj => by
    rcases HSUB.out _ hj with h | h
    · by_cases hf : F j
      · exact .inl hf
      · exact .inr (Nat.le_of_not_lt fun hlt => h.2 (.inl ⟨hlt, hf⟩))
    · exact .inr (by omega)
  have HSB2 := Lib.hid hsubF
  rw [put7] at hB hX hP hS
  have HB2 := Lib.hid hB
  have HX3 := Lib.hid hX
  have HP3 := Lib.hid (And.intro hP hS)
  clear hB hX hP HP hS hnF hsubF
  unfold pV at HP3 ⊢
  rcases HFN.out with rfl | ⟨g, caps, rfl⟩
  all_goals
    go_wp2
    refine lateQ_mk (fun _ => True) trivial (mix_end ?_)
    clear cc0 cc1 cc2 cc3 cc4 cc5 cc6 cz ll
    replace HB2 := HB2.out
    replace HX3 := HX3.out
    replace HP3 := HP3.out
    generalize (World.setCell _ (⟨w.heap.size, 6, none⟩ : Addr) _) = Z at HB2 HX3 HP3 ⊢
    obtain ⟨c0, c1, c2, c3, c4, c5, c6, cz, ll⟩ := sev_of HB2
    replace HX3 := Lib.hid HX3
    replace HP3 := Lib.hid HP3
    clear HB2
    go_wp2
    exact bodyPost_ret (by simp only [results, Tryz.results208, go_sem]; simp [go_sem, c0, c1, c2, c3, c4, c5, c6]) rfl ⟨_, F2, rfl, HX3.out, HP3.out.1, fun j hj => by rw [HP3.out.2]; exact HBN.out j hj, HSB2.out⟩


set_option maxRecDepth 8000 in
set_option maxHeartbeats 1000000 in
theorem listedP_some (F : Nat → Prop) (a : Acc) (l : List Acc) (t : List (BitVec 64)) (v lv : Value) (w : World) (hT : Told (nF F) w t.reverse v) (hA : AsB (nF F) w lv (a :: l)) (hl : t.length + l.length ≤ 999) (hF : Bnd F w)
    (IH : Hid (∀ (F : Nat → Prop) (t : List (BitVec 64)) v lv w, Told (nF F) w t.reverse v → AsB (nF F) w lv l → t.length + l.length ≤ 1000 → Bnd F w → Calls Tryz.prog 202 #[v, lv] w (RetP (PA l t) F w))) :
    Calls Tryz.prog 202 #[v, lv] w (RetP (PA (a :: l) t) F w) := by
  have HA := Lib.hid hA
  obtain ⟨a0, cap, rfl, hc, _⟩ := hA
  obtain ⟨b, o, rfl, hb', hlt, hcell⟩ := HA.out.at (by simp)
  obtain ⟨c0, c1, c2, c3⟩ := hcell 0 (by simp)
  rw [Nat.zero_mul, Nat.add_zero] at c0 c1 c2 c3
  have ea : aN (a :: l) 0 = a := rfl
  rw [ea] at c0 c1 c2 c3
  clear ea
  have hlt1 : b < w.heap.size + 1 := by omega
  have hlt2 : b < w.heap.size + 1 + 1 := by omega
  have HT := Lib.hid hT
  obtain ⟨p, rfl⟩ := hT.ptr
  clear hT hcell
  have HE : Hid (Enters 208) := Lib.hid (enters_of Tryz.func208 (by kernel_rfl) rfl)
  go_enter Tryz.func202, Tryz.ntmps202
  go_wp2
  have hX : ∀ o3, Ext w (((w.alloc (.cells #[.pointer p] 242)).alloc (.cells #[.slice (some ⟨b, o, none⟩) (l.length + 1) cap] 237)).alloc o3) := fun o3 => ext_alloc _ (ext_alloc _ (ext_alloc _ (ext_refl w)))
  have HBH := Lib.hid hF
  clear hF
  refine bodyPost_ret (v := pV (.slice none 0 0) a (.func (.func 208) #[] #[.pointer (some ⟨w.heap.size, 0, none⟩), .pointer (some ⟨w.heap.size + 1, 0, none⟩)]) (.pointer none)) (by simp [results, Tryz.results202, go_sem, pV]) rfl ⟨_, fun j => F j ∨ j = w.heap.size ∨ j = w.heap.size + 1, rfl, hX _, ⟨_, _, rfl, HE.out, fun x w' ha => ?_⟩, fun j hj => ?_, fun j hj => ?_⟩
  · have e1 := heap_at w (.cells #[.pointer p] 242) w.heap.size rfl
    have e2 := heap_at (w.alloc (.cells #[.pointer p] 242)) (.cells #[.slice (some ⟨b, o, none⟩) (l.length + 1) cap] 237) (w.heap.size + 1) (by simp)
    have e1' := fun o3 => ((ext_alloc o3 (ext_alloc (.cells #[.slice (some ⟨b, o, none⟩) (l.length + 1) cap] 237) (ext_refl (w.alloc (.cells #[.pointer p] 242))))).block _ (heap_lt e1)).trans e1
    have e2' := fun o3 => ((ext_alloc o3 (ext_refl ((w.alloc (.cells #[.pointer p] 242)).alloc (.cells #[.slice (some ⟨b, o, none⟩) (l.length + 1) cap] 237)))).block _ (heap_lt e2)).trans e2
    have d1 := cell_at (o := 0) ((ha _ (.inr (.inl rfl))).trans (e1' _)) rfl
    have d2 := cell_at (o := 0) ((ha _ (.inr (.inr rfl))).trans (e2' _)) rfl
    have hFw : Agr F w w' := (Agr.of_ext (hX _) HBH.out).trans (ha.sub fun j hj => .inl hj)
    exact (listed1P F x a l t _ _ w.heap.size (w.heap.size + 1) w' (HT.out.agr hFw) (HA.out.agr hFw) d1 d2 hl IH).mono fun _ _ h => h.mono fun j hj => .inl hj
  · rcases hj with hj | rfl | rfl
    · have := HBH.out j hj
      simp
      omega
    · simp
      omega
    · simp
  · rcases hj with hj | rfl | rfl
    · exact .inl hj
    · exact .inr (Nat.le_refl _)
    · exact .inr (Nat.le_succ _)
theorem listedP_any : ∀ (l : List Acc) (F : Nat → Prop) (t : List (BitVec 64)) (v lv : Value) (w : World), Told (nF F) w t.reverse v → AsB (nF F) w lv l → t.length + l.length ≤ 1000 → Bnd F w → Calls Tryz.prog 202 #[v, lv] w (RetP (PA l t) F w)
  | [], F, t, v, lv, w, hT, hA, hl, hF => listedP_none F t v lv w hT hA (by simpa using hl)
  | a :: l, F, t, v, lv, w, hT, hA, hl, hF => listedP_some F a l t v lv w hT hA (by simp at hl; omega) hF (Lib.hid (listedP_any l))
set_option maxRecDepth 8000 in
set_option maxHeartbeats 1000000 in
theorem listP_any (l : List Acc) (lv : Value) (w : World) (hA : AsB (fun _ => False) w lv l) (hl : l.length ≤ 1000) : Calls Tryz.prog 197 #[lv] w (RetP (PA l []) noF w) := by
  have HA := Lib.hid hA
  obtain ⟨a0, cap, rfl, hc, _⟩ := hA
  go_enter Tryz.func197, Tryz.ntmps197
  go_wp2_with (first
    | (go_at_call 203; refine (cloneA_any (fun k => k < w.heap.size + 1) l _ _ (HA.out.ext (ext_alloc _ (ext_refl w))) hl (fun k hk => by simpa using hk)).mono ?_; rintro e w1 ⟨v1, rfl, ha, hx⟩; have HA1 := Lib.hid ha; have HX1 := Lib.hid hx; clear ha hx)
    | (go_at_call 202; refine (listedP_any l (fun k => w.heap.size + 1 ≤ k ∧ k < w1.heap.size) [] _ _ _ rfl (HA1.out.more (nF_of fun k hk hn => ⟨Nat.le_of_not_lt hn, hk⟩)) (by simpa using hl) (fun k hk => hk.2)).mono ?_; rintro e w2 ⟨v2, F2, rfl, hx, hp, hbn, hsub⟩; have HP := Lib.hid hp; have HBN := Lib.hid hbn; have hw1s := HX1.out.size; have HSUB := Lib.hid hsub; clear hbn hsub; have HX2 := Lib.hid (ext_trans HX1.out hx); obtain ⟨sa, n, c, a', fn, rfl, hfn⟩ := hp.shape; have HFN := Lib.hid hfn; clear hp hx hfn; refine Hid.out ?_))
  refine Lib.hid ?_
  have hbx := (HX2.out.block w.heap.size (by simp)).trans (heap_at w _ _ rfl)
  obtain ⟨cc0, cc1, cc2, cc3, cc4, cc5, cc6, cz, ll⟩ := sev_of hbx
  have HBX := Lib.hid hbx
  clear hbx
  have HE := Lib.hid (ext_trans (ext_alloc _ (ext_refl w)) HX2.out)
  have hX := put7_ext (b := w.heap.size) (.slice sa n c) (.int .i64 a'.op) (.int .i64 a'.at_) (.int .u64 (U a'.a)) (.int .u64 (U a'.b)) fn (.pointer none) HE.out (Nat.le_refl _)
  have hB := put7_block (.slice sa n c) (.int .i64 a'.op) (.int .i64 a'.at_) (.int .u64 (U a'.a)) (.int .u64 (U a'.b)) fn (.pointer none) HBX.out
  have hw1t : w.heap.size + 1 ≤ w1.heap.size := by simpa using hw1s
  have hnF : ¬ F2 w.heap.size := fun h => by
    rcases HSUB.out _ h with h | h
    · exact absurd h.1 (by omega)
    · omega
  have hP := HP.out.agr (Agr.of_put7 (w := w2) (b := w.heap.size) (.slice sa n c) (.int .i64 a'.op) (.int .i64 a'.at_) (.int .u64 (U a'.a)) (.int .u64 (U a'.b)) fn (.pointer none) hnF)
  have hS : (put7 w.heap.size (.slice sa n c) (.int .i64 a'.op) (.int .i64 a'.at_) (.int .u64 (U a'.a)) (.int .u64 (U a'.b)) fn (.pointer none) w2).heap.size = w2.heap.size := put7_size _ _ _ _ _ _ _
  have hsubF : ∀ j, F2 j → noF j ∨ w.heap.size ≤ j := fun j hj => by
    rcases HSUB.out _ hj with h | h
    · exact .inr (by omega)
    · exact .inr (by omega)
  have HSB2 := Lib.hid hsubF
  rw [put7] at hB hX hP hS
  have HB2 := Lib.hid hB
  have HX3 := Lib.hid hX
  have HP3 := Lib.hid (And.intro hP hS)
  clear hB hX hP HP hS hnF hsubF hw1t
  unfold pV at HP3 ⊢
  rcases HFN.out with rfl | ⟨g, caps, rfl⟩
  all_goals
    go_wp2
    clear cc0 cc1 cc2 cc3 cc4 cc5 cc6 cz ll
    replace HB2 := HB2.out
    replace HX3 := HX3.out
    replace HP3 := HP3.out
    generalize (World.setCell _ (⟨w.heap.size, 6, none⟩ : Addr) _) = Z at HB2 HX3 HP3 ⊢
    obtain ⟨c0, c1, c2, c3, c4, c5, c6, cz, ll⟩ := sev_of HB2
    exact bodyPost_ret (by simp only [results, Tryz.results197, go_sem]; simp [go_sem, c0, c1, c2, c3, c4, c5, c6]) rfl ⟨_, F2, rfl, HX3, HP3.1, fun j hj => by rw [HP3.2]; exact HBN.out j hj, HSB2.out⟩

end Go.Proofs.YtpidmbclgfnekaaGreat
