/-
  Hazards: the words, and the programs Set, Clear, Held and Guard, as trees. No conditions but those of each theorem.
-/
import Derived.Test.YtpidmbclgfnekaaGar
namespace Go.Proofs.Ytpidmbclgfnekaa
open Go Go.RowKit

theorem U_nameH {n : Int} (h0 : -1 ≤ n) (h1 : n < 4611686018427387904) : U (nameW n) = n + 1 := by
  rw [U_toNat]
  unfold nameW
  rw [BitVec.toNat_ofNat]
  omega
theorem nameH_inj {n m : Int} (h0 : -1 ≤ n) (h1 : n < 4611686018427387904) (g0 : -1 ≤ m) (g1 : m < 4611686018427387904) (e : nameW n = nameW m) : n = m := by
  have h := U_nameH h0 h1
  rw [e, U_nameH g0 g1] at h
  omega
theorem nameH_none : nameW (-1) = 0#64 := U_inj ((U_nameH (by omega) (by omega)).trans (by rw [U_0]; rfl))
/-- Does a hazard of the word x name the node n? -/
def nmB (x : BitVec 64) (n : Int) : Bool := decide (0 ≤ n) && (x == nameW n)
/-- Clear, from a slot on, of which k are left. -/
def clrT (p : Pl) (t : Int) : Nat → Int → Tr Unit
  | 0, _ => .done ()
  | k + 1, s => (setT (p.hazF t s) 0#64).bind fun _ => clrT p t k (s + 1)
/-- Held, from the hazard i on (all threads' in a row), behind which k are left. -/
def hldT (p : Pl) (n : Int) : Nat → Int → Tr Bool
  | 0, i => (getT (p.hazF (i / 3) (i % 3))).bind fun x => if nmB x n then .done true else .done false
  | k + 1, i => (getT (p.hazF (i / 3) (i % 3))).bind fun x => if nmB x n then .done true else hldT p n k (i + 1)
/-- What a Guard does with a word that it has loaded; behind the hazard's store; up to so many turns. -/
def ldT (at_ : Int) (goOn : BitVec 64 → Tr (BitVec 64)) (x : BitVec 64) : Tr (BitVec 64) := (getT at_).bind fun y => if y = x then .done x else goOn y
def gonT (p : Pl) (t s at_ : Int) (sh : Nat) : Nat → BitVec 64 → Tr (BitVec 64)
  | 0, x => if x >>> sh = 0#64 then .done x else .more
  | N + 1, x => if x >>> sh = 0#64 then .done x else (setT (p.hazF t s) (x >>> sh)).bind fun _ => ldT at_ (gonT p t s at_ sh N) x
def grdT (p : Pl) (t s at_ : Int) (sh N : Nat) : Tr (BitVec 64) := (getT at_).bind (gonT p t s at_ sh N)
end Go.Proofs.Ytpidmbclgfnekaa

/-
  Hazards in plain numbers: where their words are, and what whole runs of Set, Clear and Held do. Conditions: a formed plan.
-/
namespace Go.Proofs.Ytpidmbclgfnekaa
open Go Go.RowKit

/-- The place of the i-th hazard, all threads' in a row; its word. -/
def hzN (p : Pl) (i : Nat) : Nat := (p.dom p.d).toNat + i
def hzW (p : Pl) (M : MS) (i : Nat) : BitVec 64 := M.wd 0 (hzN p i)
theorem hazF_eq {p : Pl} (hp : p.ok) {t s : Int} (h0 : 0 ≤ t) (h1 : t < p.t) (h2 : 0 ≤ s) (h3 : s < 3) : p.hazF t s = p.dom p.d + (3 * t + s) ∧ (p.hazF t s).toNat = hzN p (3 * t + s).toNat := by
  have hd := Pl.dom_in hp (Pl.d_in hp).1 (Pl.d_in hp).2
  have e : p.hazF t s = p.dom p.d + (3 * t + s) := by
    unfold Pl.hazF
    rw [if_pos ⟨hp, ⟨h0, h1⟩, h2, h3⟩]
    unfold Pl.haz
    omega
  refine ⟨e, ?_⟩
  rw [e]
  unfold hzN
  omega
theorem haz_size {p : Pl} (hp : p.ok) {i : Int} (h0 : 0 ≤ i) (h1 : i < 3 * p.t) : 1 ≤ p.dom p.d + i ∧ p.dom p.d + i < p.nod 0 ∧ p.nod 0 < p.sizeF := by
  have hd := Pl.dom_in hp (Pl.d_in hp).1 (Pl.d_in hp).2
  have h2 := (Pl.cnt_b hp (Pl.t_in hp).1 (Pl.t_in hp).2).1
  unfold Pl.sizeF
  rw [if_pos hp]
  unfold Pl.nod Pl.cnt Pl.haz at *
  unfold Pl.ok at hp
  omega
/-- No hazard is the head, nor a node's NEXT. -/
theorem hz_ne {p : Pl} (hp : p.ok) {i : Nat} (h1 : (i : Int) < 3 * p.t) : hzN p i ≠ 0 ∧ ∀ m, InR p m → hzN p i ≠ nxN p m := by
  have h := haz_size hp (i := (i : Int)) (by omega) h1
  have hd := Pl.dom_in hp (Pl.d_in hp).1 (Pl.d_in hp).2
  refine ⟨by unfold hzN; omega, fun m hm => ?_⟩
  have h2 := nx_eq hp hm
  have h3 := nx_in hp hm
  have h4 := hm.1
  unfold Pl.nod at h
  unfold hzN nxN
  omega
theorem hz_zero {p : Pl} (hp : p.ok) {M : MS} (hz : Zer p M) {i : Nat} (h1 : (i : Int) < 3 * p.t) : hzW p M i = 0#64 := hz _ (hz_ne hp h1).1 (hz_ne hp h1).2
theorem hz_inj {p : Pl} {i j : Nat} (e : hzN p i = hzN p j) : i = j := by unfold hzN at e; omega
theorem haz_ok {p : Pl} (hp : p.ok) {M : MS} (hM : Mg p M) {t s op : Int} (h0 : 0 ≤ t) (h1 : t < p.t) (h2 : 0 ≤ s) (h3 : s < 3) (h4 : 0 ≤ op) (h5 : op ≤ 3) : DoOk M 0 1#64 op (p.hazF t s) := by
  have h := haz_size hp (i := 3 * t + s) (by omega) (by omega)
  have e := (hazF_eq hp h0 h1 h2 h3).1
  exact hM.ok (by omega) (by omega) h4 h5
/-- Only the hazards of J have turned, to those words. -/
structure HzTo (p : Pl) (M M' : MS) (f : Nat → BitVec 64) : Prop where
  mg : Mg p M'
  hz : ∀ i : Nat, (i : Int) < 3 * p.t → hzW p M' i = f i
  ot : ∀ j, (∀ i : Nat, (i : Int) < 3 * p.t → j ≠ hzN p i) → M'.wd 0 j = M.wd 0 j
theorem set_run {p : Pl} (hp : p.ok) {M : MS} (hM : Mg p M) {t s : Int} (x : BitVec 64) (h0 : 0 ≤ t) (h1 : t < p.t) (h2 : 0 ≤ s) (h3 : s < 3) (k : Nat) :
    ∃ M', runT 0 1#64 (k + 1) (setT (p.hazF t s) x) M = some (M', 1, .done ()) ∧ HzTo p M M' (fun i => if i = (3 * t + s).toNat then x else hzW p M i) := by
  have hok := haz_ok hp hM h0 h1 h2 h3 (op := 1) (by omega) (by omega)
  have e := (hazF_eq hp h0 h1 h2 h3).2
  refine ⟨M.done 0 1 (p.hazF t s) x 0#64, ?_, hM.done _ _ _ _ _, fun i hi => ?_, fun j hj => ?_⟩
  · show runT 0 1#64 (k + 1) (.ask (stA (p.hazF t s) x) _) M = _
    rw [runT, if_pos (show DoOk M 0 1#64 (stA (p.hazF t s) x).op (stA (p.hazF t s) x).at_ from hok)]
    cases k <;> rfl
  · show (M.done 0 1 (p.hazF t s) x 0#64).wd 0 (hzN p i) = _
    rw [wd_store, e]
    by_cases hi2 : i = (3 * t + s).toNat
    · subst hi2
      simp
    · rw [if_neg fun h => hi2 (hz_inj h)]
      simp only [hi2, if_false]
      rfl
  · show (M.done 0 1 (p.hazF t s) x 0#64).wd 0 j = _
    rw [wd_store, if_neg (by rw [e]; exact hj _ (by omega))]
theorem clr_run {p : Pl} (hp : p.ok) {t : Int} (h0 : 0 ≤ t) (h1 : t < p.t) : ∀ (k : Nat) (s : Int) (M : MS) (q : Nat), 0 ≤ s → s + k = 3 → Mg p M →
    ∃ M', runT 0 1#64 (k + q) (clrT p t k s) M = some (M', k, .done ()) ∧ HzTo p M M' (fun i => if (3 * t + s).toNat ≤ i ∧ i < (3 * t + 3).toNat then 0#64 else hzW p M i)
  | 0, s, M, q, h2, h3, hM => by
    refine ⟨M, ?_, hM, fun i hi => ?_, fun _ _ => rfl⟩
    · cases q <;> rfl
    · rw [if_neg (by omega)]
  | k + 1, s, M, q, h2, h3, hM => by
    have hok := haz_ok hp hM h0 h1 h2 (show s < 3 by omega) (op := 1) (by omega) (by omega)
    have e := (hazF_eq hp h0 h1 h2 (show s < 3 by omega)).2
    obtain ⟨M', r1, r2⟩ := clr_run hp h0 h1 k (s + 1) (M.done 0 1 (p.hazF t s) 0#64 0#64) q (by omega) (by omega) (hM.done _ _ _ _ _)
    refine ⟨M', ?_, r2.mg, fun i hi => ?_, fun j hj => ?_⟩
    · show runT 0 1#64 (k + 1 + q) (.ask (stA (p.hazF t s) 0#64) fun _ => clrT p t k (s + 1)) M = _
      rw [show k + 1 + q = (k + q) + 1 by omega, runT, if_pos (show DoOk M 0 1#64 (stA (p.hazF t s) 0#64).op (stA (p.hazF t s) 0#64).at_ from hok)]
      show Option.map _ (runT 0 1#64 (k + q) (clrT p t k (s + 1)) (M.done 0 1 (p.hazF t s) 0#64 0#64)) = _
      rw [r1]
      rfl
    · rw [r2.hz i hi]
      by_cases hi2 : i = (3 * t + s).toNat
      · rw [if_neg (by omega), if_pos (by omega)]
        show (M.done 0 1 (p.hazF t s) 0#64 0#64).wd 0 (hzN p i) = _
        rw [wd_store, e, hi2, if_pos rfl]
      · have hh : hzW p (M.done 0 1 (p.hazF t s) 0#64 0#64) i = hzW p M i := by
          show (M.done 0 1 (p.hazF t s) 0#64 0#64).wd 0 (hzN p i) = _
          rw [wd_store, e, if_neg fun h => hi2 (hz_inj h)]
          rfl
        rw [hh]
        by_cases hi3 : (3 * t + (s + 1)).toNat ≤ i ∧ i < (3 * t + 3).toNat
        · rw [if_pos hi3, if_pos (by omega)]
        · rw [if_neg hi3, if_neg (by omega)]
    · rw [r2.ot j hj]
      show (M.done 0 1 (p.hazF t s) 0#64 0#64).wd 0 j = _
      rw [wd_store, if_neg (by rw [e]; exact hj _ (by omega))]
/-- Whether one of so many words names a node; how many were looked at. -/
def heldR (x : Nat → BitVec 64) (m : BitVec 64) : Nat → Nat → Bool × Nat
  | 0, i => (false, i)
  | k + 1, i => if x i = m then (true, i + 1) else heldR x m k (i + 1)
theorem heldR_congr {x y : Nat → BitVec 64} {m : BitVec 64} : ∀ (k i : Nat), (∀ j, j < i + k → x j = y j) → heldR x m k i = heldR y m k i
  | 0, _, _ => rfl
  | k + 1, i, h => by
    rw [heldR, heldR, h i (by omega), heldR_congr k (i + 1) fun j hj => h j (by omega)]
theorem heldR_yes {x : Nat → BitVec 64} {m : BitVec 64} {j : Nat} (hx : x j = m) : ∀ (k i : Nat), i ≤ j → j < i + k → (heldR x m k i).1 = true
  | 0, i, h1, h2 => by omega
  | k + 1, i, h1, h2 => by
    rw [heldR]
    split
    · rfl
    · rename_i h
      exact heldR_yes hx k (i + 1) (by by_cases e : i = j; exact absurd (e ▸ hx) h; omega) (by omega)
theorem heldR_no {x : Nat → BitVec 64} {m : BitVec 64} : ∀ (k i : Nat), (∀ j, j < i + k → x j ≠ m) → heldR x m k i = (false, i + k)
  | 0, _, _ => rfl
  | k + 1, i, h => by
    rw [heldR, if_neg (h i (by omega)), heldR_no k (i + 1) fun j hj => h j (by omega)]
    congr 1
    omega
theorem heldR_le {x : Nat → BitVec 64} {m : BitVec 64} : ∀ (k i : Nat), (heldR x m k i).2 ≤ i + k
  | 0, _ => Nat.le_refl _
  | k + 1, i => by
    rw [heldR]
    split
    · show i + 1 ≤ _
      omega
    · have := heldR_le (x := x) (m := m) k (i + 1)
      omega
theorem hld_run {p : Pl} (hp : p.ok) {n : Int} (hn : 0 ≤ n) : ∀ (k i : Nat) (M : MS) (q : Nat), (i : Int) + k + 1 = 3 * p.t → Mg p M →
    ∃ M' b c, runT 0 1#64 (k + 1 + q) (hldT p n k (i : Int)) M = some (M', c, .done b) ∧ (Mg p M' ∧ ∀ j, M'.wd 0 j = M.wd 0 j) ∧ heldR (hzW p M) (nameW n) (k + 1) i = (b, i + c)
  | k, i, M, q, h2, hM => by
    have h0 : (0 : Int) ≤ (i : Int) / 3 := by omega
    have h1 : (i : Int) / 3 < p.t := by omega
    have h3 : (0 : Int) ≤ (i : Int) % 3 := by omega
    have h4 : (i : Int) % 3 < 3 := by omega
    have hok := haz_ok hp hM h0 h1 h3 h4 (op := 0) (by omega) (by omega)
    have e := (hazF_eq hp h0 h1 h3 h4).2
    rw [show (3 * ((i : Int) / 3) + (i : Int) % 3).toNat = i by omega] at e
    have hw := wd_load M (p.hazF ((i : Int) / 3) ((i : Int) % 3)) 0#64 0#64
    have hx : M.wd (0 : Int).toNat (ldA (p.hazF ((i : Int) / 3) ((i : Int) % 3))).at_.toNat = hzW p M i := by
      show M.wd 0 (p.hazF ((i : Int) / 3) ((i : Int) % 3)).toNat = _
      rw [e]
      rfl
    by_cases hy : hzW p M i = nameW n
    · have hb : nmB (hzW p M i) n = true := by unfold nmB; simp [hy, hn]
      refine ⟨M.done 0 0 (p.hazF ((i : Int) / 3) ((i : Int) % 3)) 0#64 0#64, true, 1, ?_, ⟨hM.done _ _ _ _ _, hw⟩, by rw [heldR, if_pos hy]⟩
      cases k with
      | zero =>
        show runT 0 1#64 (0 + 1 + q) (.ask (ldA (p.hazF ((i : Int) / 3) ((i : Int) % 3))) fun x => if nmB x n then .done true else .done false) M = _
        rw [show 0 + 1 + q = q + 1 by omega, runT, if_pos (show DoOk M 0 1#64 (ldA (p.hazF ((i : Int) / 3) ((i : Int) % 3))).op (ldA (p.hazF ((i : Int) / 3) ((i : Int) % 3))).at_ from hok), hx]
        simp only [hb, if_true]
        cases q <;> rfl
      | succ k =>
        show runT 0 1#64 (k + 1 + 1 + q) (.ask (ldA (p.hazF ((i : Int) / 3) ((i : Int) % 3))) fun x => if nmB x n then .done true else hldT p n k (i + 1)) M = _
        rw [show k + 1 + 1 + q = (k + 1 + q) + 1 by omega, runT, if_pos (show DoOk M 0 1#64 (ldA (p.hazF ((i : Int) / 3) ((i : Int) % 3))).op (ldA (p.hazF ((i : Int) / 3) ((i : Int) % 3))).at_ from hok), hx]
        simp only [hb, if_true]
        rw [show k + 1 + q = (k + q) + 1 by omega]
        rfl
    · have hb : nmB (hzW p M i) n = false := by unfold nmB; simp [hy]
      cases k with
      | zero =>
        refine ⟨M.done 0 0 (p.hazF ((i : Int) / 3) ((i : Int) % 3)) 0#64 0#64, false, 1, ?_, ⟨hM.done _ _ _ _ _, hw⟩, by rw [heldR, if_neg hy]; rfl⟩
        show runT 0 1#64 (0 + 1 + q) (.ask (ldA (p.hazF ((i : Int) / 3) ((i : Int) % 3))) fun x => if nmB x n then .done true else .done false) M = _
        rw [show 0 + 1 + q = q + 1 by omega, runT, if_pos (show DoOk M 0 1#64 (ldA (p.hazF ((i : Int) / 3) ((i : Int) % 3))).op (ldA (p.hazF ((i : Int) / 3) ((i : Int) % 3))).at_ from hok), hx]
        simp only [hb]
        cases q <;> rfl
      | succ k =>
        obtain ⟨M', b, c, r1, r2, r3⟩ := hld_run hp hn k (i + 1) (M.done 0 0 (p.hazF ((i : Int) / 3) ((i : Int) % 3)) 0#64 0#64) q (by omega) (hM.done _ _ _ _ _)
        refine ⟨M', b, c + 1, ?_, ⟨r2.1, fun j => (r2.2 j).trans (hw j)⟩, ?_⟩
        · show runT 0 1#64 (k + 1 + 1 + q) (.ask (ldA (p.hazF ((i : Int) / 3) ((i : Int) % 3))) fun x => if nmB x n then .done true else hldT p n k (i + 1)) M = _
          rw [show k + 1 + 1 + q = (k + 1 + q) + 1 by omega, runT, if_pos (show DoOk M 0 1#64 (ldA (p.hazF ((i : Int) / 3) ((i : Int) % 3))).op (ldA (p.hazF ((i : Int) / 3) ((i : Int) % 3))).at_ from hok), hx]
          simp only [hb]
          show Option.map _ (runT 0 1#64 (k + 1 + q) (hldT p n k ((i : Int) + 1)) (M.done 0 0 (p.hazF ((i : Int) / 3) ((i : Int) % 3)) 0#64 0#64)) = _
          rw [show ((i : Int) + 1) = ((i + 1 : Nat) : Int) by omega, r1]
          rfl
        · rw [heldR, if_neg hy, heldR_congr (x := hzW p M) (y := hzW p (M.done 0 0 (p.hazF ((i : Int) / 3) ((i : Int) % 3)) 0#64 0#64)) (k + 1) (i + 1) (fun j _ => (hw _).symm), r3]
          congr 1
          omega
end Go.Proofs.Ytpidmbclgfnekaa

/-
  A Guard in plain numbers: its states, and what each step does. Conditions: a formed plan; a place of the region that is no hazard.
-/
namespace Go.Proofs.Ytpidmbclgfnekaa
open Go Go.RowKit

/-- A guard's states: it loads; it stores the hazard; it loads again; it is over. -/
inductive GS : Type
  | ld : GS
  | st (x : BitVec 64) : GS
  | rl (x : BitVec 64) : GS
  | dn (x : BitVec 64) : GS
def gdT (p : Pl) (t s at_ : Int) (sh N : Nat) : GS → Tr (BitVec 64)
  | .ld => grdT p t s at_ sh N
  | .st x => (setT (p.hazF t s) (x >>> sh)).bind fun _ => ldT at_ (gonT p t s at_ sh N) x
  | .rl x => ldT at_ (gonT p t s at_ sh N) x
  | .dn x => .done x
/-- Where it goes with a word. -/
def gnx (sh : Nat) (x : BitVec 64) : GS := if x >>> sh = 0#64 then .dn x else .st x
theorem gon_gnx (p : Pl) (t s at_ : Int) (sh N : Nat) (x : BitVec 64) : gonT p t s at_ sh (N + 1) x = gdT p t s at_ sh N (gnx sh x) := by
  rw [gonT]
  unfold gnx
  split
  · rfl
  · rfl
/-- A step, as the tree says it. -/
def GStep (p : Pl) (t s at_ : Int) (sh : Nat) (M : MS) (N : Nat) (g : GS) (M' : MS) (N' : Nat) (g' : GS) : Prop :=
  ∃ a f, gdT p t s at_ sh N g = .ask a f ∧ DoOk M 0 1#64 a.op a.at_ ∧ M' = M.done 0 a.op a.at_ a.a a.b ∧ f (M.wd (0 : Int).toNat a.at_.toNat) = gdT p t s at_ sh N' g'
theorem runT_gstep {p : Pl} {t s at_ : Int} {sh : Nat} {M M' : MS} {N N' : Nat} {g g' : GS} (h : GStep p t s at_ sh M N g M' N' g') (k : Nat) : runT 0 1#64 (k + 1) (gdT p t s at_ sh N g) M = (runT 0 1#64 k (gdT p t s at_ sh N' g') M').map (fun x => (x.1, x.2.1 + 1, x.2.2)) := by
  obtain ⟨a, f, h1, h2, rfl, h4⟩ := h
  rw [h1, runT, if_pos h2, h4]
/-- What the place's word leads to, in a state that loads. -/
def GS.aft (sh : Nat) (y : BitVec 64) : GS → GS
  | .ld => gnx sh y
  | .st x => .rl x
  | .rl x => if y = x then .dn x else gnx sh y
  | .dn x => .dn x
/-- The access that it asks. -/
def GS.acc (p : Pl) (t s at_ : Int) (sh : Nat) : GS → Acc
  | .st x => stA (p.hazF t s) (x >>> sh)
  | _ => ldA at_
def GS.isDn : GS → Bool
  | .dn _ => true
  | _ => false
/-- The step of a state, whichever. -/
theorem go_g {p : Pl} (hp : p.ok) {M : MS} (hM : Mg p M) {t s at_ : Int} (h0 : 0 ≤ t) (h1 : t < p.t) (h2 : 0 ≤ s) (h3 : s < 3) (ha0 : 0 ≤ at_) (ha1 : at_ < p.sizeF) (sh N : Nat) (g : GS) (hg : g.isDn = false) :
    ∃ N', N ≤ N' ∧ N' ≤ N + 1 ∧ GStep p t s at_ sh M (N + 1) g (M.done 0 (g.acc p t s at_ sh).op (g.acc p t s at_ sh).at_ (g.acc p t s at_ sh).a (g.acc p t s at_ sh).b) N' (g.aft sh (M.wd 0 at_.toNat)) ∧
      (∃ f, gdT p t s at_ sh (N + 1) g = .ask (g.acc p t s at_ sh) f) ∧ DoOk M 0 1#64 (g.acc p t s at_ sh).op (g.acc p t s at_ sh).at_ := by
  have hokL : DoOk M 0 1#64 (ldA at_).op (ldA at_).at_ := hM.ok ha0 ha1 (show (0 : Int) ≤ 0 by omega) (show (0 : Int) ≤ 3 by omega)
  have hokS := haz_ok hp hM h0 h1 h2 h3 (op := 1) (by omega) (by omega)
  cases g with
  | ld => exact ⟨N, Nat.le_refl _, Nat.le_succ _, ⟨_, _, rfl, hokL, rfl, gon_gnx p t s at_ sh N _⟩, ⟨_, rfl⟩, hokL⟩
  | st x => exact ⟨N + 1, Nat.le_succ _, Nat.le_refl _, ⟨_, _, rfl, hokS, rfl, rfl⟩, ⟨_, rfl⟩, hokS⟩
  | rl x =>
    refine ⟨N, Nat.le_refl _, Nat.le_succ _, ⟨_, _, rfl, hokL, rfl, ?_⟩, ⟨_, rfl⟩, hokL⟩
    show (if M.wd 0 at_.toNat = x then Tr.done x else gonT p t s at_ sh (N + 1) (M.wd 0 at_.toNat)) = _
    unfold GS.aft
    by_cases e : M.wd 0 at_.toNat = x
    · simp only [e, if_true]
      rfl
    · simp only [e, if_false]
      exact gon_gnx p t s at_ sh N _
  | dn x => cases hg
/-- What stands for a state: the hazard names the node, once it is stored. -/
def GOk (sh : Nat) (hz : BitVec 64) : GS → Prop
  | .ld => True
  | .st x => x >>> sh ≠ 0#64
  | .rl x => x >>> sh ≠ 0#64 ∧ hz = x >>> sh
  | .dn x => x >>> sh ≠ 0#64 → hz = x >>> sh
theorem gnx_ok (sh : Nat) (hz x : BitVec 64) : GOk sh hz (gnx sh x) := by
  unfold gnx
  split
  · rename_i h
    exact fun h' => (h' h).elim
  · rename_i h
    exact h
/-- What a step does to the words. -/
theorem gst_words {p : Pl} (hp : p.ok) {M : MS} (hM : Mg p M) {t s at_ : Int} (h0 : 0 ≤ t) (h1 : t < p.t) (h2 : 0 ≤ s) (h3 : s < 3) (ha : ∀ i : Nat, (i : Int) < 3 * p.t → at_.toNat ≠ hzN p i) (sh : Nat) (g : GS) :
    HzTo p M (M.done 0 (g.acc p t s at_ sh).op (g.acc p t s at_ sh).at_ (g.acc p t s at_ sh).a (g.acc p t s at_ sh).b) (fun i => match g with | .st x => if i = (3 * t + s).toNat then x >>> sh else hzW p M i | _ => hzW p M i) ∧
    (M.done 0 (g.acc p t s at_ sh).op (g.acc p t s at_ sh).at_ (g.acc p t s at_ sh).a (g.acc p t s at_ sh).b).wd 0 at_.toNat = M.wd 0 at_.toNat := by
  have e := (hazF_eq hp h0 h1 h2 h3).2
  have hld : HzTo p M (M.done 0 0 at_ 0#64 0#64) (fun i => hzW p M i) ∧ (M.done 0 0 at_ 0#64 0#64).wd 0 at_.toNat = M.wd 0 at_.toNat :=
    ⟨⟨hM.done _ _ _ _ _, fun i _ => wd_load M at_ 0#64 0#64 _, fun j _ => wd_load M at_ 0#64 0#64 j⟩, wd_load M at_ 0#64 0#64 _⟩
  cases g with
  | ld => exact hld
  | rl x => exact hld
  | dn x => exact hld
  | st x =>
    refine ⟨⟨hM.done _ _ _ _ _, fun i hi => ?_, fun j hj => ?_⟩, ?_⟩
    · show (M.done 0 1 (p.hazF t s) (x >>> sh) 0#64).wd 0 (hzN p i) = _
      rw [wd_store, e]
      by_cases hi2 : i = (3 * t + s).toNat
      · subst hi2
        simp
      · rw [if_neg fun h => hi2 (hz_inj h)]
        simp only [hi2, if_false]
        rfl
    · show (M.done 0 1 (p.hazF t s) (x >>> sh) 0#64).wd 0 j = _
      rw [wd_store, if_neg (by rw [e]; exact hj _ (by omega))]
    · show (M.done 0 1 (p.hazF t s) (x >>> sh) 0#64).wd 0 at_.toNat = _
      rw [wd_store, if_neg (by rw [e]; exact ha _ (by omega))]
/-- So a state stays in order. -/
theorem gok_step {p : Pl} (hp : p.ok) {M : MS} (hM : Mg p M) {t s at_ : Int} (h0 : 0 ≤ t) (h1 : t < p.t) (h2 : 0 ≤ s) (h3 : s < 3) (ha : ∀ i : Nat, (i : Int) < 3 * p.t → at_.toNat ≠ hzN p i) (sh : Nat) (g : GS) (y : BitVec 64) (hg : GOk sh (hzW p M (3 * t + s).toNat) g) :
    GOk sh (hzW p (M.done 0 (g.acc p t s at_ sh).op (g.acc p t s at_ sh).at_ (g.acc p t s at_ sh).a (g.acc p t s at_ sh).b) (3 * t + s).toNat) (g.aft sh y) := by
  have hw := (gst_words hp hM h0 h1 h2 h3 ha sh g).1.hz (3 * t + s).toNat (by omega)
  rw [hw]
  cases g with
  | ld => exact gnx_ok _ _ _
  | st x => exact ⟨hg, by simp⟩
  | rl x =>
    unfold GS.aft
    simp only
    split
    · exact fun _ => hg.2
    · exact gnx_ok _ _ _
  | dn x => exact hg
/-- How many steps are left at most, where so many times the word may yet be turned. -/
def GS.mu (cur : BitVec 64) (rem : Nat) : GS → Nat
  | .ld => 2 * rem + 3
  | .st x => if cur = x then 2 * rem + 2 else 2 * rem + 4
  | .rl x => if cur = x then 2 * rem + 1 else 2 * rem + 3
  | .dn _ => 0
theorem mu_turn (cur cur' : BitVec 64) (rem : Nat) (g : GS) : g.mu cur' rem ≤ g.mu cur (rem + 1) := by
  cases g <;> simp only [GS.mu] <;> (repeat' split) <;> omega
theorem mu_less (cur : BitVec 64) {rem rem' : Nat} (h : rem' ≤ rem) (g : GS) : g.mu cur rem' ≤ g.mu cur rem := by
  cases g <;> simp only [GS.mu] <;> (repeat' split) <;> omega
theorem mu_gnx (sh : Nat) (cur : BitVec 64) (rem : Nat) : (gnx sh cur).mu cur rem ≤ 2 * rem + 2 := by
  unfold gnx
  split
  · simp [GS.mu]
  · simp [GS.mu]
theorem mu_step (sh : Nat) (cur : BitVec 64) (rem : Nat) (g : GS) (hg : g.isDn = false) : (g.aft sh cur).mu cur rem + 1 ≤ g.mu cur rem := by
  have h := mu_gnx sh cur rem
  cases g with
  | ld =>
    show (gnx sh cur).mu cur rem + 1 ≤ 2 * rem + 3
    omega
  | st x =>
    show (if cur = x then 2 * rem + 1 else 2 * rem + 3) + 1 ≤ (if cur = x then 2 * rem + 2 else 2 * rem + 4)
    split <;> omega
  | rl x =>
    show (if cur = x then GS.dn x else gnx sh cur).mu cur rem + 1 ≤ (if cur = x then 2 * rem + 1 else 2 * rem + 3)
    by_cases e : cur = x
    · rw [if_pos e, if_pos e]
      show 0 + 1 ≤ _
      omega
    · rw [if_neg e, if_neg e]
      omega
  | dn x => cases hg
end Go.Proofs.Ytpidmbclgfnekaa

/-
  What the calls of Set and Clear come to. Conditions: those of each theorem.
-/
namespace Go.Proofs.Ytpidmbclgfnekaa
open Go Go.RowKit

end Go.Proofs.Ytpidmbclgfnekaa

/-
  What the call of Held comes to. Conditions: those of each theorem.
-/
namespace Go.Proofs.Ytpidmbclgfnekaa
open Go Go.RowKit

end Go.Proofs.Ytpidmbclgfnekaa

/-
  What the calls of Step and Over come to (B). Conditions: those of each theorem.
-/
namespace Go.Proofs.Ytpidmbclgfnekaa
open Go Go.RowKit

theorem over_B (t : Tr (Bool)) (F : Nat → Prop) (v : Value) (w : World) (hP : PT kB t F v w) (y : Bool) (b : Bool) (hy : Hid (ansT kB t = .bool y)) (hb : Hid (ovT t = b)) : Calls Try.prog 81 #[v] w (Ret (.tuple #[.bool y, .bool b]) w) := by
  rw [← hb.out, ← hy.out]
  cases t with
  | done x => cases hP; exact overYB x _ _ _ _ w
  | ask a f => obtain ⟨g, caps, rfl, _⟩ := hP; exact ovnB a _ _ _ w
  | more => obtain ⟨a, g, caps, rfl, _⟩ := hP; exact ovnB a _ _ _ w
theorem ans_B (t : Tr (Bool)) : ∃ y, ansT kB t = .bool y := by
  cases t with
  | done x => exact ⟨_, rfl⟩
  | ask a f => exact ⟨_, rfl⟩
  | more => exact ⟨_, rfl⟩
end Go.Proofs.Ytpidmbclgfnekaa

/-
  What the calls of Run come to (B). Conditions: those of each theorem.
-/
namespace Go.Proofs.Ytpidmbclgfnekaa
open Go Go.RowKit

structure RunN_B (lo hi : Nat) (L : Lay) (r : Int) (e : BitVec 64) (x : MS × Nat × Tr (Bool)) (m : Nat) (B : Nat) (w : World) (n : Nat) (t : Tr (Bool)) (M : MS) (v : Value) (F : Nat → Prop) (wr : World) : Prop where
  km : n ≤ m
  res : ∃ y, runT r e (m - n) t M = some y ∧ x = (y.1, y.2.1 + n, y.2.2)
  p : PT kB t F v wr
  bnd : Bnd F wr
  off : ∀ j, F j → (j < lo ∨ hi ≤ j) ∧ j ≠ B
  mem : MemIn lo hi L M wr
  fr : Fr lo hi w wr
  box : ∃ (y : Bool) (a : Acc) (fn : Value), v = .agg #[.bool y, .int .i64 a.op, .int .i64 a.at_, .int .u64 (U a.a), .int .u64 (U a.b), fn, .pointer none] ∧ (fn = .nilFunc ∨ ∃ g caps, fn = .func (.func g) #[] caps) ∧ wr.heap[B]? = some (.cells #[.bool y, .int .i64 a.op, .int .i64 a.at_, .int .u64 (U a.a), .int .u64 (U a.b), fn, .pointer none] 122)
  cap : wr.heap[B + 1]? = some (.cells #[.int .i64 r, .int .u64 (U e)] 61)
def RunL_B (lo hi : Nat) (L : Lay) (r : Int) (e : BitVec 64) (x : MS × Nat × Tr (Bool)) (m : Nat) (B : Nat) (w : World) (i : Value) (wr : World) : Prop :=
  ∃ (n : Nat) (t : Tr (Bool)) (M : MS) (v : Value) (F : Nat → Prop), i = .int .i64 (n : Int) ∧ RunN_B lo hi L r e x m B w n t M v F wr
end Go.Proofs.Ytpidmbclgfnekaa

/-
  What the laws of hazard share: their awake and fits, runs of Set, Clear and Held as calls, what a word names, the reference's Held, and what stands in the midst of a law. Conditions: those of each theorem.
-/
namespace Go.Proofs.Ytpidmbclgfnekaa
open Go Go.RowKit

/-! Runs. -/
def RetSetH (p : Pl) (lo hi : Nat) (L : Lay) (M : MS) (i : Nat) (x : BitVec 64) (w : World) (e : Ending) (w' : World) : Prop :=
  ∃ M', e = .returned (.tuple #[.agg #[], .int .i64 1, .bool true]) ∧ MemIn lo hi L M' w' ∧ Fr lo hi w w' ∧ HzTo p M M' (fun j => if j = i then x else hzW p M j)
theorem runSetH {lo hi : Nat} {L : Lay} {M : MS} (p : Pl) (hp : p.ok) (hG : Mg p M) (t s : Int) (x : BitVec 64) (h0 : 0 ≤ t) (h1 : t < p.t) (h2 : 0 ≤ s) (h3 : s < 3) (F : Nat → Prop) (v : Value) (w : World) (hP : PT kN (setT (p.hazF t s) x) F v w) (hF : Bnd F w) (hO : ∀ j, F j → j < lo ∨ hi ≤ j) (hM : MemIn lo hi L M w) :
    Calls Try.prog 14 #[v, .pointer (some ⟨L.bm, 0, none⟩), .agg #[.int .i64 0, .int .u64 (U 1#64)], .int .i64 9] w (RetSetH p lo hi L M (3 * t + s).toNat x w) := by
  obtain ⟨M', r1, r2⟩ := set_run hp hG x h0 h1 h2 h3 8
  exact (run_N (setT (p.hazF t s) x) F v 0 1#64 9 w _ (by omega) r1 hP hF hO hM).mono fun e w' ⟨g1, g2, g3⟩ => ⟨M', g1, g2, g3, r2⟩
def RetClrH (p : Pl) (lo hi : Nat) (L : Lay) (M : MS) (t : Int) (w : World) (e : Ending) (w' : World) : Prop :=
  ∃ M', e = .returned (.tuple #[.agg #[], .int .i64 3, .bool true]) ∧ MemIn lo hi L M' w' ∧ Fr lo hi w w' ∧ HzTo p M M' (fun i => if (3 * t).toNat ≤ i ∧ i < (3 * t + 3).toNat then 0#64 else hzW p M i)
theorem runClrH {lo hi : Nat} {L : Lay} {M : MS} (p : Pl) (hp : p.ok) (hG : Mg p M) (t : Int) (h0 : 0 ≤ t) (h1 : t < p.t) (F : Nat → Prop) (v : Value) (w : World) (hP : PT kN (clrT p t 3 0) F v w) (hF : Bnd F w) (hO : ∀ j, F j → j < lo ∨ hi ≤ j) (hM : MemIn lo hi L M w) :
    Calls Try.prog 14 #[v, .pointer (some ⟨L.bm, 0, none⟩), .agg #[.int .i64 0, .int .u64 (U 1#64)], .int .i64 9] w (RetClrH p lo hi L M t w) := by
  obtain ⟨M', r1, r2⟩ := clr_run hp h0 h1 3 0 M 6 (by omega) (by omega) hG
  rw [Int.add_zero] at r2
  exact (run_N (clrT p t 3 0) F v 0 1#64 9 w _ (by omega) r1 hP hF hO hM).mono fun e w' ⟨g1, g2, g3⟩ => ⟨M', g1, g2, g3, r2⟩
def RetHldH (p : Pl) (lo hi : Nat) (L : Lay) (M : MS) (n : Int) (w : World) (e : Ending) (w' : World) : Prop :=
  ∃ (M' : MS) (b : Bool) (c : Nat), e = .returned (.tuple #[.bool b, .int .i64 (c : Int), .bool true]) ∧ MemIn lo hi L M' w' ∧ Fr lo hi w w' ∧ (Mg p M' ∧ ∀ j, M'.wd 0 j = M.wd 0 j) ∧ heldR (hzW p M) (nameW n) (3 * p.t).toNat 0 = (b, c)
/-! In the midst of a law: the memory, the plan's box B. -/
structure HIn (p : Pl) (lo hi : Nat) (L : Lay) (B : Nat) (w0 : World) (M : MS) (wr : World) : Prop where
  m : MemIn lo hi L M wr
  mg : Mg p M
  ex : Ext w0 wr
  pb : PBox B p wr
section
variable {p : Pl} {lo hi : Nat} {L : Lay} {B : Nat} {w0 : World} {M M' : MS} {wr wr' : World}
theorem HIn.ext (h : HIn p lo hi L B w0 M wr) (hx : Ext wr wr') : HIn p lo hi L B w0 M wr' := ⟨h.m.ext hx, h.mg, ext_trans h.ex hx, h.pb.ext hx⟩
theorem HIn.ran (h : HIn p lo hi L B w0 M wr) (hm : MemIn lo hi L M' wr') (hf : Fr lo hi wr wr') (hG : Mg p M') (h1 : w0.heap.size ≤ lo) (h2 : B < lo) : HIn p lo hi L B w0 M' wr' :=
  ⟨hm, hG, hf.below h.ex h1, (hf.block _ (heap_lt h.pb) (.inl h2)).trans h.pb⟩
end
theorem h64 (n : Nat) (h : n ≤ 2000000) : wrap64 ((n : Int) + 1) = ((n + 1 : Nat) : Int) := by
  unfold wrap64
  omega
theorem p2nm : nameW 1 ≠ 0#64 := nameW_ne0 (by omega) (by omega)

/-- What fits asks. -/
def FitsP (p : Pl) (t s n : Int) : Prop := p.few ∧ p.ok ∧ 0 ≤ t ∧ t < p.t ∧ 0 ≤ s ∧ s < 3 ∧ -1 ≤ n ∧ n < p.n
/-! The reference. -/
def HelRel (l : List (BitVec 64)) (m : BitVec 64) (vi : Value) : Prop := ∃ k : Nat, k ≤ l.length ∧ vi = .int .i64 (k : Int) ∧ heldR (uN l) m l.length 0 = heldR (uN l) m (l.length - k) k
end Go.Proofs.Ytpidmbclgfnekaa

/-
  What the call of a Guard's closures comes to. Conditions: those of each theorem.
-/
namespace Go.Proofs.Ytpidmbclgfnekaa
open Go Go.RowKit

def gbF (B0 B1 B2 B3 B4 B6 : Nat) : Nat → Prop := fun j => j = B0 ∨ j = B1 ∨ j = B2 ∨ j = B3 ∨ j = B4 ∨ j = B6
end Go.Proofs.Ytpidmbclgfnekaa

/-
  What the calls of Step and Over come to (U). Conditions: those of each theorem.
-/
namespace Go.Proofs.Ytpidmbclgfnekaa
open Go Go.RowKit

theorem over_U (t : Tr (BitVec 64)) (F : Nat → Prop) (v : Value) (w : World) (hP : PT kU t F v w) (y : Int) (b : Bool) (hy : Hid (ansT kU t = .int .u64 y)) (hb : Hid (ovT t = b)) : Calls Try.prog 62 #[v] w (Ret (.tuple #[.int .u64 y, .bool b]) w) := by
  rw [← hb.out, ← hy.out]
  cases t with
  | done x => cases hP; exact overYU (U x) _ _ _ _ w
  | ask a f => obtain ⟨g, caps, rfl, _⟩ := hP; exact ovnU a _ _ _ w
  | more => obtain ⟨a, g, caps, rfl, _⟩ := hP; exact ovnU a _ _ _ w
theorem ans_U (t : Tr (BitVec 64)) : ∃ y, ansT kU t = .int .u64 y := by
  cases t with
  | done x => exact ⟨_, rfl⟩
  | ask a f => exact ⟨_, rfl⟩
  | more => exact ⟨_, rfl⟩
end Go.Proofs.Ytpidmbclgfnekaa

/-
  What the calls of Run come to (U). Conditions: those of each theorem.
-/
namespace Go.Proofs.Ytpidmbclgfnekaa
open Go Go.RowKit

structure RunN_U (lo hi : Nat) (L : Lay) (r : Int) (e : BitVec 64) (x : MS × Nat × Tr (BitVec 64)) (m : Nat) (B : Nat) (w : World) (n : Nat) (t : Tr (BitVec 64)) (M : MS) (v : Value) (F : Nat → Prop) (wr : World) : Prop where
  km : n ≤ m
  res : ∃ y, runT r e (m - n) t M = some y ∧ x = (y.1, y.2.1 + n, y.2.2)
  p : PT kU t F v wr
  bnd : Bnd F wr
  off : ∀ j, F j → (j < lo ∨ hi ≤ j) ∧ j ≠ B
  mem : MemIn lo hi L M wr
  fr : Fr lo hi w wr
  box : ∃ (y : Int) (a : Acc) (fn : Value), v = .agg #[.int .u64 y, .int .i64 a.op, .int .i64 a.at_, .int .u64 (U a.a), .int .u64 (U a.b), fn, .pointer none] ∧ (fn = .nilFunc ∨ ∃ g caps, fn = .func (.func g) #[] caps) ∧ wr.heap[B]? = some (.cells #[.int .u64 y, .int .i64 a.op, .int .i64 a.at_, .int .u64 (U a.a), .int .u64 (U a.b), fn, .pointer none] 94)
  cap : wr.heap[B + 1]? = some (.cells #[.int .i64 r, .int .u64 (U e)] 61)
def RunL_U (lo hi : Nat) (L : Lay) (r : Int) (e : BitVec 64) (x : MS × Nat × Tr (BitVec 64)) (m : Nat) (B : Nat) (w : World) (i : Value) (wr : World) : Prop :=
  ∃ (n : Nat) (t : Tr (BitVec 64)) (M : MS) (v : Value) (F : Nat → Prop), i = .int .i64 (n : Int) ∧ RunN_U lo hi L r e x m B w n t M v F wr
end Go.Proofs.Ytpidmbclgfnekaa

/-
  Places of fields; a Guard that is run alone, in plain numbers and as a call; what a program asks next. Conditions: a formed plan; a place that is no hazard.
-/
namespace Go.Proofs.Ytpidmbclgfnekaa
open Go Go.RowKit

theorem fd_place {p : Pl} (hp : p.ok) {n f : Int} (hn : InR p n) (h0 : 0 ≤ f) (h1 : f < 3) : 0 ≤ p.fdF n f ∧ p.fdF n f < p.sizeF ∧ ∀ i : Nat, (i : Int) < 3 * p.t → (p.fdF n f).toNat ≠ hzN p i := by
  have e : p.fdF n f = p.nod n + 2 + f := by unfold Pl.fdF; rw [if_pos ⟨hp, hn, h0, h1⟩]
  have hs : p.sizeF = p.nod p.n := by unfold Pl.sizeF; rw [if_pos hp]
  have hz := haz_size hp (i := 0) (by omega) (by have := hp.2.1; omega)
  have e1 : p.nod n = p.nod 0 + n * 5 := by unfold Pl.nod; omega
  have e2 : p.nod p.n = p.nod 0 + p.n * 5 := by unfold Pl.nod; omega
  have h2 := hn.1
  have h3 := hn.2
  have hd := Pl.dom_in hp (Pl.d_in hp).1 (Pl.d_in hp).2
  refine ⟨by omega, by omega, fun i hi => ?_⟩
  have h4 := haz_size hp (i := (i : Int)) (by omega) hi
  unfold hzN
  omega
theorem hzW_at {p : Pl} (hp : p.ok) (M : MS) {t s : Int} (h0 : 0 ≤ t) (h1 : t < p.t) (h2 : 0 ≤ s) (h3 : s < 3) : M.wd 0 (p.hazF t s).toNat = hzW p M (3 * t + s).toNat := by
  rw [(hazF_eq hp h0 h1 h2 h3).2]
  rfl
theorem haz_rg {p : Pl} (hp : p.ok) {t s : Int} (h0 : 0 ≤ t) (h1 : t < p.t) (h2 : 0 ≤ s) (h3 : s < 3) : 0 ≤ p.hazF t s ∧ p.hazF t s < p.sizeF := by
  have e := (hazF_eq hp h0 h1 h2 h3).1
  have h := haz_size hp (i := 3 * t + s) (by omega) (by omega)
  omega
/-- A guard that is run alone. -/
theorem grd_alone {p : Pl} (hp : p.ok) {M : MS} (hM : Mg p M) {t s at_ : Int} (h0 : 0 ≤ t) (h1 : t < p.t) (h2 : 0 ≤ s) (h3 : s < 3) (ha0 : 0 ≤ at_) (ha1 : at_ < p.sizeF) (ha : ∀ i : Nat, (i : Int) < 3 * p.t → at_.toNat ≠ hzN p i) (sh : Nat) (x : BitVec 64) (hx : M.wd 0 at_.toNat = x) :
    ∃ M' c, runT 0 1#64 9 (grdT p t s at_ sh 6) M = some (M', c, .done x) ∧ Mg p M' ∧ (x >>> sh = 0#64 → c = 1 ∧ hzW p M' (3 * t + s).toNat = hzW p M (3 * t + s).toNat) ∧ (x >>> sh ≠ 0#64 → c = 3 ∧ hzW p M' (3 * t + s).toNat = x >>> sh) := by
  obtain ⟨N1, n1, n2, g1, _⟩ := go_g hp hM h0 h1 h2 h3 ha0 ha1 sh 5 .ld rfl
  have w1 := gst_words hp hM h0 h1 h2 h3 ha sh .ld
  rw [hx] at g1 w1
  generalize M.done 0 (GS.ld.acc p t s at_ sh).op (GS.ld.acc p t s at_ sh).at_ (GS.ld.acc p t s at_ sh).a (GS.ld.acc p t s at_ sh).b = M1 at g1 w1
  have r1 := runT_gstep g1 8
  rw [show grdT p t s at_ sh 6 = gdT p t s at_ sh (5 + 1) .ld from rfl, r1]
  by_cases hz : x >>> sh = 0#64
  · have e : GS.ld.aft sh x = .dn x := by show gnx sh x = _; unfold gnx; rw [if_pos hz]
    rw [e]
    exact ⟨M1, 1, rfl, w1.1.mg, fun _ => ⟨rfl, w1.1.hz _ (by omega)⟩, fun h => (h hz).elim⟩
  · have e : GS.ld.aft sh x = .st x := by show gnx sh x = _; unfold gnx; rw [if_neg hz]
    rw [e]
    obtain ⟨K1, rfl⟩ : ∃ K, N1 = K + 1 := ⟨N1 - 1, by omega⟩
    obtain ⟨N2, n3, n4, g2, _⟩ := go_g hp w1.1.mg h0 h1 h2 h3 ha0 ha1 sh K1 (.st x) rfl
    have w2 := gst_words hp w1.1.mg h0 h1 h2 h3 ha sh (.st x)
    rw [w1.2] at g2 w2
    generalize M1.done 0 ((GS.st x).acc p t s at_ sh).op ((GS.st x).acc p t s at_ sh).at_ ((GS.st x).acc p t s at_ sh).a ((GS.st x).acc p t s at_ sh).b = M2 at g2 w2
    rw [show (8 : Nat) = 7 + 1 from rfl, runT_gstep g2 7]
    obtain ⟨K2, rfl⟩ : ∃ K, N2 = K + 1 := ⟨N2 - 1, by omega⟩
    obtain ⟨N3, n5, n6, g3, _⟩ := go_g hp w2.1.mg h0 h1 h2 h3 ha0 ha1 sh K2 (.rl x) rfl
    have w3 := gst_words hp w2.1.mg h0 h1 h2 h3 ha sh (.rl x)
    rw [w2.2] at g3 w3
    generalize M2.done 0 ((GS.rl x).acc p t s at_ sh).op ((GS.rl x).acc p t s at_ sh).at_ ((GS.rl x).acc p t s at_ sh).a ((GS.rl x).acc p t s at_ sh).b = M3 at g3 w3
    rw [show (GS.st x).aft sh x = .rl x from rfl, show (7 : Nat) = 6 + 1 from rfl, runT_gstep g3 6]
    have e3 : (GS.rl x).aft sh x = .dn x := by show (if x = x then GS.dn x else gnx sh x) = _; rw [if_pos rfl]
    rw [e3]
    refine ⟨M3, 3, rfl, w3.1.mg, fun h => (hz h).elim, fun _ => ⟨rfl, ?_⟩⟩
    rw [w3.1.hz _ (by omega)]
    show hzW p M2 _ = _
    rw [w2.1.hz _ (by omega)]
    simp
def RetGrdH (p : Pl) (lo hi : Nat) (L : Lay) (M : MS) (i sh : Nat) (x : BitVec 64) (w : World) (e : Ending) (w' : World) : Prop :=
  ∃ (M' : MS) (c : Nat), e = .returned (.tuple #[.int .u64 (U x), .int .i64 (c : Int), .bool true]) ∧ MemIn lo hi L M' w' ∧ Fr lo hi w w' ∧ Mg p M' ∧ (x >>> sh = 0#64 → c = 1 ∧ hzW p M' i = hzW p M i) ∧ (x >>> sh ≠ 0#64 → c = 3 ∧ hzW p M' i = x >>> sh)
end Go.Proofs.Ytpidmbclgfnekaa

/-
  A program of words in its box, and a Guard's step as a call. Conditions: those of each theorem.
-/
namespace Go.Proofs.Ytpidmbclgfnekaa
open Go Go.RowKit

/-- The program t stands in the box BQ. -/
structure QU (lo hi BQ : Nat) (t : Tr (BitVec 64)) (F : Nat → Prop) (vq : Value) (wr : World) : Prop where
  pt : PT kU t F vq wr
  bn : Bnd F wr
  of : ∀ j, F j → (j < lo ∨ hi ≤ j) ∧ j ≠ BQ
  box : ∃ (y : Int) (a : Acc) (fn : Value), vq = .agg #[.int .u64 y, .int .i64 a.op, .int .i64 a.at_, .int .u64 (U a.a), .int .u64 (U a.b), fn, .pointer none] ∧ (fn = .nilFunc ∨ ∃ g caps, fn = .func (.func g) #[] caps) ∧ wr.heap[BQ]? = some (.cells #[.int .u64 y, .int .i64 a.op, .int .i64 a.at_, .int .u64 (U a.a), .int .u64 (U a.b), fn, .pointer none] 94)
section
variable {lo hi BQ : Nat} {t : Tr (BitVec 64)} {F : Nat → Prop} {vq : Value} {wr wr' : World}
theorem QU.keep (h : QU lo hi BQ t F vq wr) (hs : wr.heap.size ≤ wr'.heap.size) (hk : ∀ j, (F j ∨ j = BQ) → wr'.heap[j]? = wr.heap[j]?) : QU lo hi BQ t F vq wr' := by
  obtain ⟨y, a, fn, h1, h2, h3⟩ := h.box
  exact ⟨h.pt.agr fun j hj => hk j (.inl hj), h.bn.ext hs, h.of, y, a, fn, h1, h2, (hk BQ (.inr rfl)).trans h3⟩
theorem QU.lt (h : QU lo hi BQ t F vq wr) : ∀ j, (F j ∨ j = BQ) → j < wr.heap.size := fun j hj => by
  rcases hj with hj | rfl
  · exact h.bn j hj
  · obtain ⟨_, _, _, _, _, h3⟩ := h.box
    exact heap_lt h3
theorem QU.ext (h : QU lo hi BQ t F vq wr) (hx : Ext wr wr') : QU lo hi BQ t F vq wr' := h.keep hx.size fun j hj => hx.block j (h.lt j hj)
theorem QU.fr (h : QU lo hi BQ t F vq wr) (hx : Fr lo hi wr wr') (hb : BQ < lo ∨ hi ≤ BQ) : QU lo hi BQ t F vq wr' := h.keep hx.size fun j hj => hx.block j (h.lt j hj) (by
  rcases hj with hj | rfl
  · exact (h.of j hj).1
  · exact hb)
theorem QU.new {w2 : World} {y : Int} {a : Acc} {fn : Value} (h1 : PT kU t F (.agg #[.int .u64 y, .int .i64 a.op, .int .i64 a.at_, .int .u64 (U a.a), .int .u64 (U a.b), fn, .pointer none]) w2) (h2 : Bnd F w2) (h3 : ∀ j, F j → j < lo ∨ hi ≤ j) (hfn : fn = .nilFunc ∨ ∃ g caps, fn = .func (.func g) #[] caps) (hB : BQ = w2.heap.size) :
    QU lo hi BQ t F (.agg #[.int .u64 y, .int .i64 a.op, .int .i64 a.at_, .int .u64 (U a.a), .int .u64 (U a.b), fn, .pointer none]) (w2.alloc (.cells #[.int .u64 y, .int .i64 a.op, .int .i64 a.at_, .int .u64 (U a.a), .int .u64 (U a.b), fn, .pointer none] 94)) := by
  have hx := ext_alloc (.cells #[.int .u64 y, .int .i64 a.op, .int .i64 a.at_, .int .u64 (U a.a), .int .u64 (U a.b), fn, .pointer none] 94) (ext_refl w2)
  refine ⟨h1.agr (Agr.of_ext hx h2), h2.ext hx.size, fun j hj => ⟨h3 j hj, ?_⟩, y, a, fn, rfl, hfn, heap_at _ _ _ hB⟩
  have := h2 j hj
  omega
end
section
variable {p : Pl} {lo hi : Nat} {L : Lay} {B : Nat} {w0 : World} {M : MS} {wr : World}
theorem HIn.put7 (h : HIn p lo hi L B w0 M wr) {b : Nat} (x0 x1 x2 x3 x4 x5 x6 : Value) (hb : hi ≤ b) (hw : w0.heap.size ≤ b) (hB : B ≠ b) : HIn p lo hi L B w0 M (put7 b x0 x1 x2 x3 x4 x5 x6 wr) :=
  ⟨put7_mem _ _ _ _ _ _ _ h.m hb, h.mg, put7_ext _ _ _ _ _ _ _ h.ex hw, (put7_other _ _ _ _ _ _ _ hB).trans h.pb⟩
/-- A program is stored into its box. -/
theorem QU.stored {BQ : Nat} {t' : Tr (BitVec 64)} {F' : Nat → Prop} {y y' : Int} {a a' : Acc} {fn fn' : Value} (hb : wr.heap[BQ]? = some (.cells #[.int .u64 y, .int .i64 a.op, .int .i64 a.at_, .int .u64 (U a.a), .int .u64 (U a.b), fn, .pointer none] 94))
    (h1 : PT kU t' F' (.agg #[.int .u64 y', .int .i64 a'.op, .int .i64 a'.at_, .int .u64 (U a'.a), .int .u64 (U a'.b), fn', .pointer none]) wr) (h2 : Bnd F' wr) (h3 : ∀ j, F' j → (j < lo ∨ hi ≤ j) ∧ j ≠ BQ) (hfn : fn' = .nilFunc ∨ ∃ g caps, fn' = .func (.func g) #[] caps) :
    QU lo hi BQ t' F' (.agg #[.int .u64 y', .int .i64 a'.op, .int .i64 a'.at_, .int .u64 (U a'.a), .int .u64 (U a'.b), fn', .pointer none]) (put7 BQ (.int .u64 y') (.int .i64 a'.op) (.int .i64 a'.at_) (.int .u64 (U a'.a)) (.int .u64 (U a'.b)) fn' (.pointer none) wr) :=
  ⟨h1.agr (Agr.of_put7 _ _ _ _ _ _ _ fun h => (h3 _ h).2 rfl), h2.ext (by rw [put7_size]; exact Nat.le_refl _), h3, y', a', fn', rfl, hfn, put7_block _ _ _ _ _ _ _ hb⟩
/-- A program is stored into another box. -/
theorem QU.put7 {BQ : Nat} {t : Tr (BitVec 64)} {F : Nat → Prop} {vq : Value} (h : QU lo hi BQ t F vq wr) {b : Nat} (x0 x1 x2 x3 x4 x5 x6 : Value) (hn : ¬ F b) (hb : BQ ≠ b) : QU lo hi BQ t F vq (put7 b x0 x1 x2 x3 x4 x5 x6 wr) :=
  h.keep (by rw [put7_size]; exact Nat.le_refl _) fun j hj => put7_other _ _ _ _ _ _ _ fun e => by
    subst e
    rcases hj with hj | hj
    · exact hn hj
    · exact hb hj.symm
end
/-- What a block holds. -/
def Blk (b : Nat) (o : Obj) (w : World) : Prop := w.heap[b]? = some o
theorem Blk.ext {b : Nat} {o : Obj} {w w' : World} (h : Blk b o w) (hx : Ext w w') : Blk b o w' := (hx.block _ (heap_lt h)).trans h
theorem Blk.fr {b lo hi : Nat} {o : Obj} {w w' : World} (h : Blk b o w) (hx : Fr lo hi w w') (hb : hi ≤ b) : Blk b o w' := (hx.block _ (heap_lt h) (.inr hb)).trans h
theorem Blk.put7 {b b' : Nat} {o : Obj} {w : World} (h : Blk b o w) (x0 x1 x2 x3 x4 x5 x6 : Value) (hb : b ≠ b') : Blk b o (put7 b' x0 x1 x2 x3 x4 x5 x6 w) := (put7_other _ _ _ _ _ _ _ hb).trans h
theorem Blk.lt {b : Nat} {o : Obj} {w : World} (h : Blk b o w) : b < w.heap.size := heap_lt h
theorem ov_gd (p : Pl) (t s at_ : Int) (sh N : Nat) {g : GS} (h : g.isDn = false) : ansT kU (gdT p t s at_ sh N g) = .int .u64 0 ∧ ovT (gdT p t s at_ sh N g) = false := by
  cases g with
  | dn x => cases h
  | ld => exact ⟨rfl, rfl⟩
  | st x => exact ⟨rfl, rfl⟩
  | rl x => exact ⟨rfl, rfl⟩
end Go.Proofs.Ytpidmbclgfnekaa
