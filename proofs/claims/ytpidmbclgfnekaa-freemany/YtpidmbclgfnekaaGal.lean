/-
  The list of free nodes, in plain numbers: what stands in a memory, what each step of a Pop and a Push does to it, and what it leaves to others. Conditions: a formed plan; fewer swaps than a tag can tell.
-/
import Derived.Test.YtpidmbclgfnekaaGak
namespace Go.Proofs.Ytpidmbclgfnekaa
open Go Go.RowKit

/-! Words. -/
theorem ndW_def (h : BitVec 64) : ndW h = getN 0 21 h := by unfold ndW; rfl
theorem tagW_def (h : BitVec 64) : tagW h = getN 21 43 h := by unfold tagW; rfl
theorem folW_def (h x : BitVec 64) : folW h x = putN 21 43 (putN 0 21 h x) (tagW h + 1#64) := by unfold folW; rfl
theorem nodeI_def (x : BitVec 64) : nodeI x = U x - 1 := by unfold nodeI; rfl
theorem small_and (x : BitVec 64) (b : Int) (hb : Fm 0 b) (h : x.toNat < 2 ^ b.toNat) : x &&& mostN b = x := by
  apply bv_eq
  intro i hi
  rw [BitVec.getLsbD_and, mostN_bit b i (by have := hb.2.2; omega) (by have := hb.2.2; omega)]
  by_cases hlt : (i : Int) < b
  · simp [hlt]
  · have : x.getLsbD i = false := by
      rw [BitVec.getLsbD]
      exact Nat.testBit_lt_two_pow (Nat.lt_of_lt_of_le h (Nat.pow_le_pow_right (by omega) (by omega)))
    rw [this]
    simp
theorem nd_fol (h x : BitVec 64) (hx : U x < 2097152) : ndW (folW h x) = x := by
  rw [ndW_def, folW_def]
  have h1 : getN 0 21 (putN 21 43 (putN 0 21 h x) (tagW h + 1#64)) = getN 0 21 (putN 0 21 h x) := by
    apply bv_eq
    intro i hi
    rw [getN_bit _ _ _ _ fmN, getN_bit _ _ _ _ fmN]
    by_cases hlt : (i : Int) < 21
    · rw [putN_bit _ _ _ _ _ fmT (by simp; omega)]
      have : ¬ (21 ≤ ((((0 : Int).toNat + i : Nat)) : Int) ∧ ((((0 : Int).toNat + i : Nat)) : Int) < 21 + 43) := by simp; omega
      simp only [this, if_false]
    · simp [hlt]
  rw [h1, get_put 0 21 h x fmN]
  refine small_and x 21 fmN ?_
  rw [U_toNat] at hx
  have e : (2 : Nat) ^ (21 : Int).toNat = 2097152 := by decide
  omega
theorem tag_fol (h x : BitVec 64) (ht : U (tagW h) < 8796093022207) : U (tagW (folW h x)) = U (tagW h) + 1 := by
  have e0 : tagW (folW h x) = (tagW h + 1#64) &&& mostN 43 := by
    rw [tagW_def (folW h x), folW_def, get_put 21 43 _ _ fmT]
  have e1 : (tagW h + 1#64).toNat = (tagW h).toNat + 1 := by
    rw [U_toNat] at ht
    rw [BitVec.toNat_add]
    have : (1#64).toNat = 1 := by decide
    rw [this]
    omega
  rw [e0, small_and _ 43 ⟨by decide, by decide, by decide, by decide⟩ ?_, U_toNat, e1, U_toNat]
  · simp
  · rw [e1]
    rw [U_toNat] at ht
    have e : (2 : Nat) ^ (43 : Int).toNat = 8796093022208 := by decide
    omega
theorem nd_fresh : ndW (putN 0 21 0#64 (nameW 0)) = nameW 0 := by
  rw [ndW_def, get_put 0 21 _ _ fmN]
  refine small_and _ 21 fmN ?_
  have h := U_nameW (n := 0) (by omega) (by omega)
  rw [U_toNat] at h
  have e : (2 : Nat) ^ (21 : Int).toNat = 2097152 := by decide
  omega
theorem tag_fresh : U (tagW (putN 0 21 0#64 (nameW 0))) = 0 := by
  have : tagW (putN 0 21 0#64 (nameW 0)) = 0#64 := by
    rw [tagW_def]
    apply bv_eq
    intro i hi
    rw [getN_bit _ _ _ _ fmT]
    by_cases hlt : (i : Int) < 43
    · rw [putN_bit _ _ _ _ _ fmN (by simp; omega)]
      have : ¬ (0 ≤ ((((21 : Int).toNat + i : Nat)) : Int) ∧ ((((21 : Int).toNat + i : Nat)) : Int) < 0 + 21) := by simp; omega
      simp only [this, if_false]
      simp
    · simp [hlt]
  rw [this, U_0]
theorem tag_shr (h : BitVec 64) : h >>> 21 = tagW h := by
  rw [tagW_def]
  apply bv_eq
  intro i hi
  rw [getN_bit _ _ _ _ fmT, BitVec.getLsbD_ushiftRight]
  by_cases hlt : (i : Int) < 43
  · simp [hlt]
  · have : h.getLsbD (21 + i) = false := BitVec.getLsbD_of_ge _ _ (by omega)
    rw [this]
    simp [hlt]
theorem nameW_ne0 {n : Int} (h0 : 0 ≤ n) (h1 : n < 4611686018427387904) : nameW n ≠ 0#64 := fun e => by
  have := U_nameW h0 h1
  rw [e, U_0] at this
  omega
theorem node_name {n : Int} (h0 : 0 ≤ n) (h1 : n < 4611686018427387904) : nodeI (nameW n) = n := by
  rw [nodeI_def, U_nameW h0 h1]
  omega
theorem name_inj {n m : Int} (h0 : 0 ≤ n) (h1 : n < 4611686018427387904) (g0 : 0 ≤ m) (g1 : m < 4611686018427387904) (e : nameW n = nameW m) : n = m := by
  rw [← node_name h0 h1, e, node_name g0 g1]

/-! Places. -/
def nxN (p : Pl) (n : Int) : Nat := (p.nxF n).toNat
def InR (p : Pl) (n : Int) : Prop := 0 ≤ n ∧ n < p.n
theorem InR.lt {p : Pl} (hp : p.ok) {n : Int} (h : InR p n) : n < 2097151 := by
  have := hp.1
  have := h.2
  omega
theorem nx_eq {p : Pl} (hp : p.ok) {n : Int} (h : InR p n) : p.nxF n = p.cnt p.t + n * 5 + 1 := by
  unfold Pl.nxF
  rw [if_pos ⟨hp, h.1, h.2⟩]
  rfl
theorem nx_in {p : Pl} (hp : p.ok) {n : Int} (h : InR p n) : 1 ≤ p.nxF n ∧ p.nxF n < p.sizeF := by
  have h1 := Pl.cnt_in hp (x := p.t) (Pl.t_in hp).1 (Int.le_refl _)
  rw [nx_eq hp h]
  unfold Pl.sizeF
  rw [if_pos hp]
  unfold Pl.nod
  have := h.1
  have := h.2
  omega
theorem nxN_inj {p : Pl} (hp : p.ok) {n m : Int} (h : InR p n) (g : InR p m) (e : nxN p n = nxN p m) : n = m := by
  have h1 := nx_in hp h
  have h2 := nx_in hp g
  have h3 := nx_eq hp h
  have h4 := nx_eq hp g
  unfold nxN at e
  omega
theorem nxN_pos {p : Pl} (hp : p.ok) {n : Int} (h : InR p n) : nxN p n ≠ 0 := by
  have h1 := nx_in hp h
  unfold nxN
  omega
theorem head_zero {p : Pl} (hp : p.ok) : p.headF = 0 := by unfold Pl.headF; rw [if_pos hp]
theorem size_pos {p : Pl} (hp : p.ok) : 1 ≤ p.sizeF ∧ p.sizeF ≤ 5275777 := by
  unfold Pl.sizeF
  rw [if_pos hp]
  have h1 := Pl.nod_in hp (x := p.n) (by have := hp.1; omega) (Int.le_refl _)
  omega

/-! Memories. -/
structure Mg (p : Pl) (M : MS) : Prop where
  n : M.n = 1
  s : M.sz 0 = p.sizeF.toNat
  e : M.ep 0 = 1#64
theorem Mg.done {p : Pl} {M : MS} (h : Mg p M) (r op at_ : Int) (a b : BitVec 64) : Mg p (M.done r op at_ a b) := ⟨h.n, h.s, h.e⟩
theorem Mg.ok {p : Pl} {M : MS} (h : Mg p M) {op at_ : Int} (h1 : 0 ≤ at_) (h2 : at_ < p.sizeF) (h3 : 0 ≤ op) (h4 : op ≤ 3) : DoOk M 0 1#64 op at_ := by
  refine ⟨⟨by omega, by rw [h.n]; omega, ?_⟩, h1, ?_, h3, h4⟩
  · exact h.e
  · show at_ < (M.sz 0 : Int)
    rw [h.s]
    omega
theorem wd_done (M : MS) (op at_ : Int) (a b : BitVec 64) (j : Nat) : (M.done 0 op at_ a b).wd 0 j = if j = at_.toNat then nextW op (M.wd 0 at_.toNat) a b else M.wd 0 j := by
  show (if (0 : Nat) = (0 : Int).toNat ∧ j = at_.toNat then _ else _) = _
  by_cases h : j = at_.toNat <;> simp [h]
theorem wd_load (M : MS) (at_ : Int) (a b : BitVec 64) (j : Nat) : (M.done 0 0 at_ a b).wd 0 j = M.wd 0 j := by
  rw [wd_done]
  split
  · rename_i h
    rw [h]
    rfl
  · rfl
theorem wd_store (M : MS) (at_ : Int) (a b : BitVec 64) (j : Nat) : (M.done 0 1 at_ a b).wd 0 j = if j = at_.toNat then a else M.wd 0 j := by
  rw [wd_done]
  rfl
theorem wd_swap (M : MS) (at_ : Int) (a b : BitVec 64) (j : Nat) : (M.done 0 2 at_ a b).wd 0 j = if j = at_.toNat then (if M.wd 0 at_.toNat = a then b else M.wd 0 at_.toNat) else M.wd 0 j := by
  rw [wd_done]
  congr 1
  unfold nextW
  by_cases h : M.wd 0 at_.toNat = a <;> simp [h]

/-! The list. -/
def nmL : List Int → BitVec 64
  | [] => 0#64
  | n :: _ => nameW n
def Ch (p : Pl) (M : MS) : List Int → Prop
  | [] => True
  | n :: l => M.wd 0 (nxN p n) = nmL l ∧ Ch p M l
theorem Ch.congr {p : Pl} {M M' : MS} : ∀ {l : List Int}, (∀ n ∈ l, M'.wd 0 (nxN p n) = M.wd 0 (nxN p n)) → Ch p M l → Ch p M' l
  | [], _, _ => trivial
  | n :: l, h, hc => ⟨(h n (by simp)).trans hc.1, Ch.congr (fun m hm => h m (by simp [hm])) hc.2⟩
structure FL (p : Pl) (M : MS) (l : List Int) (T : Nat) : Prop where
  mg : Mg p M
  hd : ndW (M.wd 0 0) = nmL l
  tg : U (tagW (M.wd 0 0)) = T
  ch : Ch p M l
  nd : l.Nodup
  rg : ∀ n ∈ l, InR p n
theorem nmL_lt {p : Pl} (hp : p.ok) {l : List Int} (h : ∀ n ∈ l, InR p n) : U (nmL l) < 2097152 := by
  cases l with
  | nil => rw [nmL, U_0]; omega
  | cons n l =>
    have h1 := h n (by simp)
    have h2 := h1.lt hp
    rw [nmL, U_nameW h1.1 (by omega)]
    omega

/-! A thread's states, and the programs that they are. -/
inductive PS : Type
  | pl : PS
  | pn (h : BitVec 64) : PS
  | ps (h nx : BitVec 64) : PS
  | ql (n : Int) : PS
  | qs (n : Int) (h : BitVec 64) : PS
  | qw (n : Int) (h : BitVec 64) : PS
  | dn (r : Int) : PS
def trT (p : Pl) (N : Nat) : PS → Tr Int
  | .pl => popT p (N + 1)
  | .pn h => (getT (p.nxF (nodeI (ndW h)))).bind fun nx => swT p h nx (nodeI (ndW h)) (popT p N)
  | .ps h nx => swT p h nx (nodeI (ndW h)) (popT p N)
  | .ql n => pushT p n (N + 1)
  | .qs n h => push1T p n (pushT p n N) h
  | .qw n h => swT p h (nameW n) n (pushT p n N)
  | .dn r => .done r
/-- One step. -/
def StepT (p : Pl) (M : MS) (N : Nat) (s : PS) (M' : MS) (N' : Nat) (s' : PS) : Prop :=
  ∃ a f, trT p N s = .ask a f ∧ DoOk M 0 1#64 a.op a.at_ ∧ M' = M.done 0 a.op a.at_ a.a a.b ∧ f (M.wd (0 : Int).toNat a.at_.toNat) = trT p N' s'
theorem runT_step {p : Pl} {M M' : MS} {N N' : Nat} {s s' : PS} (h : StepT p M N s M' N' s') (k : Nat) : runT 0 1#64 (k + 1) (trT p N s) M = (runT 0 1#64 k (trT p N' s') M').map (fun x => (x.1, x.2.1 + 1, x.2.2)) := by
  obtain ⟨a, f, h1, h2, rfl, h4⟩ := h
  rw [h1, runT, if_pos h2, h4]
/-- The word was the head's, and if the tag is still that one, it is. -/
def HW (M : MS) (T : Nat) (h : BitVec 64) : Prop := h = M.wd 0 0 ∨ U (tagW h) < T
/-- What holds of a thread in its state. -/
def Th (p : Pl) (M : MS) (T : Nat) : PS → Prop
  | .pl => True
  | .pn h => HW M T h ∧ ∃ n, InR p n ∧ ndW h = nameW n
  | .ps h nx => HW M T h ∧ ∃ n, InR p n ∧ ndW h = nameW n ∧ (h = M.wd 0 0 → nx = M.wd 0 (nxN p n))
  | .ql n => InR p n
  | .qs n h => InR p n ∧ HW M T h
  | .qw n h => InR p n ∧ HW M T h ∧ M.wd 0 (nxN p n) = ndW h
  | .dn _ => True
/-- The node that it pushes. -/
def PS.node : PS → Option Int
  | .ql n => some n
  | .qs n _ => some n
  | .qw n _ => some n
  | _ => none
/-- What a step leaves to others: the head is as it was, or its tag has risen; no NEXT has turned but of a node w. -/
structure Eff (p : Pl) (M : MS) (T : Nat) (M' : MS) (T' : Nat) (w : Option Int) : Prop where
  hd : (M'.wd 0 0 = M.wd 0 0 ∧ T' = T) ∨ T' = T + 1
  nx : ∀ n, InR p n → w ≠ some n → M'.wd 0 (nxN p n) = M.wd 0 (nxN p n)

theorem Th.frame {p : Pl} (hp : p.ok) {M M' : MS} {l l' : List Int} {T T' : Nat} {w : Option Int} {s : PS} (hL : FL p M l T) (hL' : FL p M' l' T') (hE : Eff p M T M' T' w) (hw : ∀ n, w = some n → n ∉ l ∧ s.node ≠ some n) (h : Th p M T s) : Th p M' T' s := by
  have hHW : ∀ x, HW M T x → HW M' T' x := fun x hx => by
    rcases hE.hd with ⟨h1, h2⟩ | h1
    · unfold HW; rw [h1, h2]; exact hx
    · refine .inr ?_
      rcases hx with rfl | hx
      · rw [hL.tg]; omega
      · omega
  have hold : ∀ x, HW M T x → x = M'.wd 0 0 → M'.wd 0 0 = M.wd 0 0 := fun x hx e => by
    rcases hE.hd with ⟨h1, _⟩ | h1
    · exact h1
    · exfalso
      have h2 := hL'.tg
      rw [← e] at h2
      rcases hx with rfl | hx
      · have h3 := hL.tg
        omega
      · omega
  cases s with
  | pl => trivial
  | pn x => exact ⟨hHW x h.1, h.2⟩
  | ps x nx =>
    obtain ⟨h1, n, h2, h3, h4⟩ := h
    refine ⟨hHW x h1, n, h2, h3, fun e => ?_⟩
    have e1 := hold x h1 e
    have e2 := h4 (e.trans e1)
    rw [e2]
    refine (hE.nx n h2 fun hwn => ?_).symm
    have hnl := (hw n hwn).1
    have h5 := hL.hd
    rw [← e1, ← e, h3] at h5
    cases l with
    | nil => exact nameW_ne0 h2.1 (by have := h2.lt hp; omega) h5
    | cons m l =>
      have hm := hL.rg m (by simp)
      have : n = m := name_inj h2.1 (by have := h2.lt hp; omega) hm.1 (by have := hm.lt hp; omega) h5
      subst this
      exact hnl (by simp)
  | ql n => exact h
  | qs n x => exact ⟨h.1, hHW x h.2⟩
  | qw n x =>
    refine ⟨h.1, hHW x h.2.1, ?_⟩
    rw [← h.2.2]
    exact hE.nx n h.1 fun hwn => (hw n hwn).2 rfl
  | dn r => trivial

theorem Eff.same {p : Pl} {M M' : MS} {T : Nat} {w : Option Int} (h : ∀ j, M'.wd 0 j = M.wd 0 j) : Eff p M T M' T w := ⟨.inl ⟨h 0, rfl⟩, fun _ _ _ => h _⟩
theorem FL.same {p : Pl} {M M' : MS} {l : List Int} {T : Nat} (h : FL p M l T) (hm : Mg p M') (hs : ∀ j, M'.wd 0 j = M.wd 0 j) : FL p M' l T :=
  ⟨hm, by rw [hs]; exact h.hd, by rw [hs]; exact h.tg, h.ch.congr fun n _ => hs _, h.nd, h.rg⟩

/-- What a step may come to. -/
structure Nxt (p : Pl) (M : MS) (l : List Int) (T : Nat) (N : Nat) (s : PS) (M' : MS) (l' : List Int) (T' : Nat) (N' : Nat) (s' : PS) : Prop where
  st : StepT p M N s M' N' s'
  fl : FL p M' l' T'
  th : Th p M' T' s'
  ef : Eff p M T M' T' s.node
  N0 : N ≤ N' + 1
  T0 : T' ≤ T + 1

section
variable {p : Pl} (hp : p.ok) {M : MS} {l : List Int} {T N : Nat} (hL : FL p M l T)
include hp hL
theorem go_pl : ∃ M' s', Nxt p M l T N .pl M' l T N s' ∧ (l = [] → s' = .dn (-1)) ∧ (l ≠ [] → s' = .pn (M.wd 0 0)) ∧ (∀ j, M'.wd 0 j = M.wd 0 j) := by
  have hz := head_zero hp
  have hok : DoOk M 0 1#64 0 p.headF := by rw [hz]; exact hL.mg.ok (by omega) (by have := size_pos hp; omega) (by omega) (by omega)
  have hw := wd_load M p.headF 0#64 0#64
  have hm := hL.mg.done 0 0 p.headF 0#64 0#64
  have hfl := hL.same hm hw
  have hst : ∀ s', pop1T p (popT p N) (M.wd 0 0) = trT p N s' → StepT p M N .pl (M.done 0 0 p.headF 0#64 0#64) N s' := fun s' e => ⟨ldA p.headF, fun x => pop1T p (popT p N) x, rfl, hok, rfl, by
    rw [← e]
    show pop1T p _ (M.wd 0 p.headF.toNat) = _
    rw [hz]
    rfl⟩
  cases l with
  | nil =>
    refine ⟨_, .dn (-1), ⟨hst _ ?_, hfl, trivial, Eff.same hw, by omega, by omega⟩, fun _ => rfl, fun h => absurd rfl h, hw⟩
    unfold pop1T
    have h0 : ndW (M.wd 0 0) = 0#64 := hL.hd
    rw [if_pos h0]
    rfl
  | cons n l =>
    have hn := hL.rg n (by simp)
    have h0 : ndW (M.wd 0 0) ≠ 0#64 := by rw [hL.hd]; exact nameW_ne0 hn.1 (by have := hn.lt hp; omega)
    refine ⟨_, .pn (M.wd 0 0), ⟨hst _ ?_, hfl, ⟨.inl (hw 0).symm, n, hn, hL.hd⟩, Eff.same hw, by omega, by omega⟩, fun h => by simp at h, fun _ => rfl, hw⟩
    unfold pop1T
    rw [if_neg h0]
    rfl
theorem go_pn {h : BitVec 64} (ht : Th p M T (.pn h)) : ∃ M' nx, Nxt p M l T N (.pn h) M' l T N (.ps h nx) ∧ (∀ j, M'.wd 0 j = M.wd 0 j) := by
  obtain ⟨h1, n, h2, h3⟩ := ht
  have e : nodeI (ndW h) = n := by rw [h3, node_name h2.1 (by have := h2.lt hp; omega)]
  have hx := nx_in hp h2
  have hok : DoOk M 0 1#64 0 (p.nxF n) := hL.mg.ok (by omega) hx.2 (by omega) (by omega)
  have hw := wd_load M (p.nxF n) 0#64 0#64
  refine ⟨M.done 0 0 (p.nxF n) 0#64 0#64, M.wd 0 (nxN p n), ⟨⟨ldA (p.nxF n), fun x => swT p h x n (popT p N), ?_, hok, rfl, ?_⟩, hL.same (hL.mg.done _ _ _ _ _) hw, ⟨?_, n, h2, h3, fun _ => (hw _).symm⟩, Eff.same hw, by omega, by omega⟩, hw⟩
  · show (getT _).bind _ = _
    rw [e]
    rfl
  · show swT p h _ n _ = swT p h _ (nodeI (ndW h)) _
    rw [e]
    rfl
  · unfold HW
    rw [hw]
    exact h1
theorem go_ps (hT : T < 8796093022207) {h nx : BitVec 64} (ht : Th p M T (.ps h nx)) : ∃ M' l' T' N' s', Nxt p M l T (N + 1) (.ps h nx) M' l' T' N' s' ∧ ((∃ n, l = n :: l' ∧ s' = .dn n ∧ T' = T + 1 ∧ h = M.wd 0 0) ∨ (l' = l ∧ s' = .pl ∧ T' = T ∧ h ≠ M.wd 0 0)) := by
  obtain ⟨h1, n, h2, h3, h4⟩ := ht
  have e : nodeI (ndW h) = n := by rw [h3, node_name h2.1 (by have := h2.lt hp; omega)]
  have hz := head_zero hp
  have hok : DoOk M 0 1#64 2 p.headF := by rw [hz]; exact hL.mg.ok (by omega) (by have := size_pos hp; omega) (by omega) (by omega)
  have hw := wd_swap M p.headF h (folW h nx)
  rw [hz] at hw
  have hm := hL.mg.done 0 2 p.headF h (folW h nx)
  have hst : ∀ N' s', sw1T n (popT p (N + 1)) (M.wd 0 0 == h) = trT p N' s' → StepT p M (N + 1) (.ps h nx) (M.done 0 2 p.headF h (folW h nx)) N' s' := fun N' s' ee => ⟨swA p.headF h (folW h nx), fun z => sw1T (nodeI (ndW h)) (popT p (N + 1)) (z == h), rfl, hok, rfl, by
    rw [← ee, e]
    show sw1T n _ (M.wd 0 p.headF.toNat == h) = _
    rw [hz]
    rfl⟩
  by_cases hh : h = M.wd 0 0
  · have hnx := h4 hh
    have hc := hL.hd
    rw [← hh, h3] at hc
    cases l with
    | nil => exact absurd hc (nameW_ne0 h2.1 (by have := h2.lt hp; omega))
    | cons m l =>
      have hmr := hL.rg m (by simp)
      have : n = m := name_inj h2.1 (by have := h2.lt hp; omega) hmr.1 (by have := hmr.lt hp; omega) hc
      subst this
      have hcl := hL.ch.1
      rw [← hnx] at hcl
      have hrg : ∀ k ∈ l, InR p k := fun k hk => hL.rg k (by simp [hk])
      have w0 : (M.done 0 2 p.headF h (folW h nx)).wd 0 0 = folW h nx := by
        rw [hz]
        rw [hw 0]
        simp [hh]
      have wn : ∀ k, InR p k → (M.done 0 2 p.headF h (folW h nx)).wd 0 (nxN p k) = M.wd 0 (nxN p k) := fun k hk => by
        rw [hz]
        rw [hw, if_neg (by simpa using nxN_pos hp hk)]
      refine ⟨_, l, T + 1, N + 1, .dn n, ⟨hst _ _ ?_, ⟨hm, ?_, ?_, hL.ch.2.congr fun k hk => wn k (hrg k hk), hL.nd.of_cons, hrg⟩, trivial, ⟨.inr rfl, fun k hk _ => wn k hk⟩, by omega, by omega⟩, .inl ⟨n, rfl, rfl, rfl, hh⟩⟩
      · rw [hh]
        simp [sw1T, trT]
      · rw [w0, nd_fol _ _ (by rw [hcl]; exact nmL_lt hp hrg), hcl]
      · have := hL.tg
        rw [← hh] at this
        rw [w0, tag_fol _ _ (by omega), this]
        omega
  · have hsame : ∀ j, (M.done 0 2 p.headF h (folW h nx)).wd 0 j = M.wd 0 j := fun j => by
      rw [hz, hw]
      split
      · rename_i hj
        rw [hj, if_neg (fun e => hh e.symm)]
      · rfl
    refine ⟨_, l, T, N, .pl, ⟨hst _ _ ?_, hL.same hm hsame, trivial, Eff.same hsame, by omega, by omega⟩, .inr ⟨rfl, rfl, rfl, hh⟩⟩
    have : (M.wd 0 0 == h) = false := beq_eq_false_iff_ne.2 fun e => hh e.symm
    rw [this]
    simp [sw1T, trT]
theorem go_ql {n : Int} (hn : InR p n) : ∃ M' h, Nxt p M l T N (.ql n) M' l T N (.qs n h) ∧ h = M.wd 0 0 ∧ (∀ j, M'.wd 0 j = M.wd 0 j) := by
  have hz := head_zero hp
  have hok : DoOk M 0 1#64 0 p.headF := by rw [hz]; exact hL.mg.ok (by omega) (by have := size_pos hp; omega) (by omega) (by omega)
  have hw := wd_load M p.headF 0#64 0#64
  have hq : p.nxF n ≠ -1 := by have := nx_in hp hn; omega
  refine ⟨M.done 0 0 p.headF 0#64 0#64, M.wd 0 0, ⟨⟨ldA p.headF, fun x => push1T p n (pushT p n N) x, ?_, hok, rfl, ?_⟩, hL.same (hL.mg.done _ _ _ _ _) hw, ⟨hn, .inl (hw 0).symm⟩, Eff.same hw, by omega, by omega⟩, rfl, hw⟩
  · show pushT p n (N + 1) = _
    rw [pushT, if_neg hq]
    rfl
  · show push1T p n _ (M.wd 0 p.headF.toNat) = _
    rw [hz]
    rfl
theorem go_qs {n : Int} {h : BitVec 64} (ht : Th p M T (.qs n h)) (hnl : n ∉ l) : ∃ M', Nxt p M l T N (.qs n h) M' l T N (.qw n h) ∧ M'.wd 0 0 = M.wd 0 0 := by
  obtain ⟨hn, h1⟩ := ht
  have hx := nx_in hp hn
  have hok : DoOk M 0 1#64 1 (p.nxF n) := hL.mg.ok (by omega) hx.2 (by omega) (by omega)
  have hw := wd_store M (p.nxF n) (ndW h) 0#64
  have h0 : (M.done 0 1 (p.nxF n) (ndW h) 0#64).wd 0 0 = M.wd 0 0 := by rw [hw, if_neg (fun e => nxN_pos hp hn e.symm)]
  have hne : ∀ k, InR p k → k ≠ n → (M.done 0 1 (p.nxF n) (ndW h) 0#64).wd 0 (nxN p k) = M.wd 0 (nxN p k) := fun k hk hkn => by
    rw [hw]
    exact if_neg fun e => hkn (nxN_inj hp hk hn e)
  refine ⟨M.done 0 1 (p.nxF n) (ndW h) 0#64, ⟨⟨stA (p.nxF n) (ndW h), fun _ => swT p h (nameW n) n (pushT p n N), rfl, hok, rfl, rfl⟩, ⟨hL.mg.done _ _ _ _ _, by rw [h0]; exact hL.hd, by rw [h0]; exact hL.tg, hL.ch.congr fun k hk => hne k (hL.rg k hk) (fun e => hnl (e ▸ hk)), hL.nd, hL.rg⟩, ⟨hn, ?_, ?_⟩, ⟨.inl ⟨h0, rfl⟩, fun k hk hkn => hne k hk (fun e => hkn (by rw [e]; rfl))⟩, by omega, by omega⟩, h0⟩
  · unfold HW
    rw [h0]
    exact h1
  · rw [hw]
    exact if_pos rfl
theorem go_qw (hT : T < 8796093022207) {n : Int} {h : BitVec 64} (ht : Th p M T (.qw n h)) (hnl : n ∉ l) : ∃ M' l' T' N' s', Nxt p M l T (N + 1) (.qw n h) M' l' T' N' s' ∧ ((l' = n :: l ∧ s' = .dn n ∧ T' = T + 1 ∧ h = M.wd 0 0) ∨ (l' = l ∧ s' = .ql n ∧ T' = T ∧ h ≠ M.wd 0 0)) := by
  obtain ⟨hn, h1, h2⟩ := ht
  have hz := head_zero hp
  have hok : DoOk M 0 1#64 2 p.headF := by rw [hz]; exact hL.mg.ok (by omega) (by have := size_pos hp; omega) (by omega) (by omega)
  have hw := wd_swap M p.headF h (folW h (nameW n))
  rw [hz] at hw
  have hm := hL.mg.done 0 2 p.headF h (folW h (nameW n))
  have hst : ∀ N' s', sw1T n (pushT p n (N + 1)) (M.wd 0 0 == h) = trT p N' s' → StepT p M (N + 1) (.qw n h) (M.done 0 2 p.headF h (folW h (nameW n))) N' s' := fun N' s' ee => ⟨swA p.headF h (folW h (nameW n)), fun z => sw1T n (pushT p n (N + 1)) (z == h), rfl, hok, rfl, by
    rw [← ee]
    show sw1T n _ (M.wd 0 p.headF.toNat == h) = _
    rw [hz]
    rfl⟩
  by_cases hh : h = M.wd 0 0
  · have w0 : (M.done 0 2 p.headF h (folW h (nameW n))).wd 0 0 = folW h (nameW n) := by
      rw [hz]
      rw [hw 0]
      simp [hh]
    have wn : ∀ k, InR p k → (M.done 0 2 p.headF h (folW h (nameW n))).wd 0 (nxN p k) = M.wd 0 (nxN p k) := fun k hk => by
      rw [hz]
      rw [hw, if_neg (by simpa using nxN_pos hp hk)]
    refine ⟨_, n :: l, T + 1, N + 1, .dn n, ⟨hst _ _ ?_, ⟨hm, ?_, ?_, ⟨?_, hL.ch.congr fun k hk => wn k (hL.rg k hk)⟩, List.nodup_cons.2 ⟨hnl, hL.nd⟩, fun k hk => ?_⟩, trivial, ⟨.inr rfl, fun k hk _ => wn k hk⟩, by omega, by omega⟩, .inl ⟨rfl, rfl, rfl, hh⟩⟩
    · rw [hh]
      simp [sw1T, trT]
    · rw [w0, nd_fol _ _ (by rw [U_nameW hn.1 (by have := hn.lt hp; omega)]; have := hn.lt hp; omega)]
      rfl
    · have := hL.tg
      rw [← hh] at this
      rw [w0, tag_fol _ _ (by omega), this]
      omega
    · rw [wn n hn, h2, hh]
      exact hL.hd
    · rcases List.mem_cons.1 hk with rfl | hk
      · exact hn
      · exact hL.rg k hk
  · have hsame : ∀ j, (M.done 0 2 p.headF h (folW h (nameW n))).wd 0 j = M.wd 0 j := fun j => by
      rw [hz, hw]
      split
      · rename_i hj
        rw [hj, if_neg (fun e => hh e.symm)]
      · rfl
    refine ⟨_, l, T, N, .ql n, ⟨hst _ _ ?_, hL.same hm hsame, hn, Eff.same hsame, by omega, by omega⟩, .inr ⟨rfl, rfl, rfl, hh⟩⟩
    have : (M.wd 0 0 == h) = false := beq_eq_false_iff_ne.2 fun e => hh e.symm
    rw [this]
    simp [sw1T, trT]
end
end Go.Proofs.Ytpidmbclgfnekaa

/-
  Whole runs of Pop, Push and Fresh, in plain numbers. Conditions: a formed plan; fewer swaps than a tag can tell.
-/
namespace Go.Proofs.Ytpidmbclgfnekaa
open Go Go.RowKit

/-- What a run leaves to a thread that stands still. -/
def Keeps (p : Pl) (M : MS) (T : Nat) (M' : MS) (T' : Nat) (w : Option Int) : Prop := ∀ s : PS, (∀ n, w = some n → s.node ≠ some n) → Th p M T s → Th p M' T' s
theorem Nxt.keeps {p : Pl} (hp : p.ok) {M : MS} {l : List Int} {T N : Nat} {s : PS} {M' : MS} {l' : List Int} {T' N' : Nat} {s' : PS} (hL : FL p M l T) (h : Nxt p M l T N s M' l' T' N' s') (hs : ∀ n, s.node = some n → n ∉ l) : Keeps p M T M' T' s.node :=
  fun _ hq ht => Th.frame hp hL h.fl h.ef (fun n hn => ⟨hs n hn, hq n hn⟩) ht
theorem Keeps.trans {p : Pl} {M M' M'' : MS} {T T' T'' : Nat} {w : Option Int} (h : Keeps p M T M' T' w) (k : Keeps p M' T' M'' T'' w) : Keeps p M T M'' T'' w := fun s hs ht => k s hs (h s hs ht)

theorem pop_none {p : Pl} (hp : p.ok) {M : MS} {T : Nat} (hL : FL p M [] T) (N k : Nat) :
    ∃ M', runT 0 1#64 (k + 1) (popT p (N + 1)) M = some (M', 1, .done (-1)) ∧ FL p M' [] T ∧ Keeps p M T M' T none := by
  obtain ⟨M', s', h1, h2, _, h4⟩ := go_pl (N := N) hp hL
  have e := h2 rfl
  subst e
  refine ⟨M', ?_, h1.fl, Nxt.keeps hp hL h1 (fun n h => by cases h)⟩
  have := runT_step h1.st k
  rw [show popT p (N + 1) = trT p N .pl from rfl, this]
  cases k <;> rfl
theorem pop_some {p : Pl} (hp : p.ok) {M : MS} {n : Int} {l : List Int} {T : Nat} (hL : FL p M (n :: l) T) (hT : T < 8796093022207) (N k : Nat) :
    ∃ M', runT 0 1#64 (k + 3) (popT p (N + 2)) M = some (M', 3, .done n) ∧ FL p M' l (T + 1) ∧ Keeps p M T M' (T + 1) none := by
  obtain ⟨M1, s1, a1, _, a3, a4⟩ := go_pl (N := N + 1) hp hL
  have e := a3 (by simp)
  subst e
  obtain ⟨M2, nx, b1, b2⟩ := go_pn (N := N + 1) hp a1.fl a1.th
  obtain ⟨M3, l3, T3, N3, s3, c1, c2⟩ := go_ps (N := N) hp b1.fl hT b1.th
  have hh : M.wd 0 0 = M2.wd 0 0 := by rw [b2, a4]
  have k1 := Nxt.keeps hp hL a1 (fun n h => by cases h)
  have k2 := Nxt.keeps hp a1.fl b1 (fun n h => by cases h)
  have k3 := Nxt.keeps hp b1.fl c1 (fun n h => by cases h)
  rcases c2 with ⟨m, d1, rfl, rfl, d4⟩ | ⟨_, _, _, d4⟩
  · simp at d1
    obtain ⟨rfl, rfl⟩ := d1
    refine ⟨M3, ?_, c1.fl, (Keeps.trans k1 k2).trans k3⟩
    rw [show popT p (N + 2) = trT p (N + 1) .pl from rfl, runT_step a1.st, runT_step b1.st, runT_step c1.st]
    cases k <;> rfl
  · exact absurd hh d4
theorem push_run {p : Pl} (hp : p.ok) {M : MS} {n : Int} {l : List Int} {T : Nat} (hL : FL p M l T) (hT : T < 8796093022207) (hn : InR p n) (hnl : n ∉ l) (N k : Nat) :
    ∃ M', runT 0 1#64 (k + 3) (pushT p n (N + 2)) M = some (M', 3, .done n) ∧ FL p M' (n :: l) (T + 1) ∧ Keeps p M T M' (T + 1) (some n) := by
  obtain ⟨M1, h, a1, a2, a4⟩ := go_ql (N := N + 1) hp hL hn
  obtain ⟨M2, b1, b2⟩ := go_qs (N := N + 1) hp a1.fl a1.th hnl
  obtain ⟨M3, l3, T3, N3, s3, c1, c2⟩ := go_qw (N := N) hp b1.fl hT b1.th hnl
  have hh : h = M2.wd 0 0 := by rw [b2, a4, a2]
  have k1 := Nxt.keeps hp hL a1 (fun m h => by cases h; exact hnl)
  have k2 := Nxt.keeps hp a1.fl b1 (fun m h => by cases h; exact hnl)
  have k3 := Nxt.keeps hp b1.fl c1 (fun m h => by cases h; exact hnl)
  rcases c2 with ⟨rfl, rfl, rfl, _⟩ | ⟨_, _, _, d4⟩
  · refine ⟨M3, ?_, c1.fl, (Keeps.trans k1 k2).trans k3⟩
    rw [show pushT p n (N + 2) = trT p (N + 1) (.ql n) from rfl, runT_step a1.st, runT_step b1.st, runT_step c1.st]
    cases k <;> rfl
  · exact absurd hh d4

/-! Fresh. -/
def rfr : Nat → Int → List Int
  | 0, _ => []
  | k + 1, j => j :: rfr k (j + 1)
theorem rfr_len : ∀ (k : Nat) (j : Int), (rfr k j).length = k
  | 0, _ => rfl
  | k + 1, j => by simp [rfr, rfr_len k (j + 1)]
theorem rfr_mem : ∀ {k : Nat} {j m : Int}, m ∈ rfr k j ↔ j ≤ m ∧ m < j + k
  | 0, j, m => by
    constructor
    · intro h; cases h
    · intro h; omega
  | k + 1, j, m => by
    simp only [rfr, List.mem_cons, rfr_mem (k := k) (j := j + 1)]
    omega
theorem rfr_nodup : ∀ (k : Nat) (j : Int), (rfr k j).Nodup
  | 0, _ => List.nodup_nil
  | k + 1, j => List.nodup_cons.2 ⟨fun h => by have := (rfr_mem.1 h).1; omega, rfr_nodup k (j + 1)⟩
theorem fresh_run {p : Pl} (hp : p.ok) : ∀ (k : Nat) (n : Int) (M : MS), 0 ≤ n → n + k = p.n → Mg p M →
    ∃ M', runT 0 1#64 (k + 1) (freshT p k n) M = some (M', k + 1, .done ()) ∧ Mg p M' ∧ M'.wd 0 0 = putN 0 21 0#64 (nameW 0) ∧ (∀ m, InR p m → n ≤ m → M'.wd 0 (nxN p m) = fnxW p m) ∧ (∀ m, InR p m → m < n → M'.wd 0 (nxN p m) = M.wd 0 (nxN p m))
  | 0, n, M, h0, h1, hM => by
    have hz := head_zero hp
    have hok : DoOk M 0 1#64 1 p.headF := by rw [hz]; exact hM.ok (by omega) (by have := size_pos hp; omega) (by omega) (by omega)
    have hw := wd_store M p.headF (putN 0 21 0#64 (nameW 0)) 0#64
    refine ⟨M.done 0 1 p.headF (putN 0 21 0#64 (nameW 0)) 0#64, ?_, hM.done _ _ _ _ _, ?_, fun m hm hnm => ?_, fun m hm _ => ?_⟩
    · show runT 0 1#64 1 (.ask (stA p.headF _) _) M = _
      rw [runT, if_pos (show DoOk M 0 1#64 (stA p.headF _).op (stA p.headF _).at_ from hok)]
      rfl
    · rw [hw, hz]
      rfl
    · have := hm.2
      omega
    · rw [hw, hz]
      exact if_neg (nxN_pos hp hm)
  | k + 1, n, M, h0, h1, hM => by
    have hn : InR p n := ⟨h0, by omega⟩
    have hx := nx_in hp hn
    have hok : DoOk M 0 1#64 1 (p.nxF n) := hM.ok (by omega) hx.2 (by omega) (by omega)
    have hw := wd_store M (p.nxF n) (fnxW p n) 0#64
    obtain ⟨M', r1, r2, r3, r4, r5⟩ := fresh_run hp k (n + 1) (M.done 0 1 (p.nxF n) (fnxW p n) 0#64) (by omega) (by omega) (hM.done _ _ _ _ _)
    refine ⟨M', ?_, r2, r3, fun m hm hnm => ?_, fun m hm hnm => ?_⟩
    · show runT 0 1#64 (k + 1 + 1) (.ask (stA (p.nxF n) _) _) M = _
      rw [runT, if_pos (show DoOk M 0 1#64 (stA (p.nxF n) _).op (stA (p.nxF n) _).at_ from hok)]
      show Option.map _ (runT 0 1#64 (k + 1) (freshT p k (n + 1)) (M.done 0 1 (p.nxF n) (fnxW p n) 0#64)) = _
      rw [r1]
      rfl
    · by_cases e : m = n
      · subst e
        rw [r5 m hm (by omega), hw]
        exact if_pos rfl
      · exact r4 m hm (by omega)
    · rw [r5 m hm (by omega), hw]
      exact if_neg fun e => by have := nxN_inj hp hm hn e; omega
theorem fresh_ch {p : Pl} {M : MS} (h : ∀ m, InR p m → M.wd 0 (nxN p m) = fnxW p m) : ∀ (k : Nat) (j : Int), 0 ≤ j → j + k = p.n → Ch p M (rfr k j)
  | 0, _, _, _ => trivial
  | k + 1, j, h0, h1 => by
    refine ⟨?_, fresh_ch h k (j + 1) (by omega) (by omega)⟩
    rw [h j ⟨h0, by omega⟩]
    unfold fnxW
    cases k with
    | zero => rw [if_pos (by omega)]; rfl
    | succ k => rw [if_neg (by omega)]; rfl
theorem fresh_FL {p : Pl} (hp : p.ok) {M : MS} (hM : Mg p M) : ∃ M', runT 0 1#64 (p.n + 1).toNat (freshT p p.n.toNat 0) M = some (M', p.n.toNat + 1, .done ()) ∧ FL p M' (rfr p.n.toNat 0) 0 := by
  have h1 := hp.1
  obtain ⟨M', r1, r2, r3, r4, _⟩ := fresh_run hp p.n.toNat 0 M (by omega) (by omega) hM
  refine ⟨M', by rw [show (p.n + 1).toNat = p.n.toNat + 1 by omega]; exact r1, r2, ?_, ?_, fresh_ch (fun m hm => r4 m hm hm.1) _ _ (by omega) (by omega), rfr_nodup _ _, fun m hm => ?_⟩
  · rw [r3, nd_fresh]
    obtain ⟨k, hk⟩ : ∃ k, p.n.toNat = k + 1 := ⟨p.n.toNat - 1, by omega⟩
    rw [hk]
    rfl
  · rw [r3, tag_fresh]
    rfl
  · have := rfr_mem.1 hm
    exact ⟨by omega, by omega⟩
theorem nodup_len : ∀ (l m : List Int), l.Nodup → (∀ x ∈ l, x ∈ m) → l.length ≤ m.length
  | [], _, _, _ => Nat.zero_le _
  | x :: l, m, hn, hs => by
    have hx := hs x (by simp)
    have h1 := List.nodup_cons.1 hn
    have h2 := nodup_len l (m.erase x) h1.2 fun y hy => by
      have hne : y ≠ x := fun e => h1.1 (e ▸ hy)
      exact (List.mem_erase_of_ne hne).2 (hs y (by simp [hy]))
    have h3 := List.length_erase_of_mem hx
    have h4 := List.length_pos_of_mem hx
    simp only [List.length_cons]
    omega
/-- Numbers that are a plan's, each once, are no more than it has. -/
theorem nodup_le {p : Pl} (h0 : 0 ≤ p.n) {l : List Int} (hn : l.Nodup) (hr : ∀ n ∈ l, InR p n) : (l.length : Int) ≤ p.n := by
  have := nodup_len l (rfr p.n.toNat 0) hn fun m hm => rfr_mem.2 ⟨(hr m hm).1, by have := (hr m hm).2; omega⟩
  rw [rfr_len] at this
  omega
theorem Mg.zero (p : Pl) : Mg p (M0 [p.sizeF] 1) := ⟨rfl, rfl, rfl⟩
end Go.Proofs.Ytpidmbclgfnekaa
