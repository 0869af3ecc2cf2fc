/-
  Threads that pop and push, however their steps stand in one another, in plain numbers: what each has, and what a step of one leaves to the others. Conditions: a formed plan; fewer swaps than a tag can tell.
-/
import Derived.Test.YtpidmbclgfnekaaGal
import Derived.ArgAppend
import Derived.OwnWalk
namespace Go.Proofs.Ytpidmbclgfnekaa
open Go Go.RowKit

/-- A state of a Pop; of a Push of n. -/
def PS.isPop : PS → Prop
  | .pl => True
  | .pn _ => True
  | .ps _ _ => True
  | _ => False
def PS.isPush (n : Int) : PS → Prop
  | .ql m => m = n
  | .qs m _ => m = n
  | .qw m _ => m = n
  | _ => False
theorem PS.isPop.node {s : PS} (h : s.isPop) : s.node = none := by
  cases s <;> first | rfl | exact h.elim
theorem PS.isPush.node {n : Int} {s : PS} (h : s.isPush n) : s.node = some n := by
  cases s <;> first | exact h.elim | (unfold PS.isPush at h; subst h; rfl)
/-- How many steps it has left, alone, at most. -/
def PS.mu (M : MS) : PS → Nat
  | .pl => 3
  | .ql _ => 3
  | .pn h => if h = M.wd 0 0 then 2 else 5
  | .qs _ h => if h = M.wd 0 0 then 2 else 5
  | .ps h _ => if h = M.wd 0 0 then 1 else 4
  | .qw _ h => if h = M.wd 0 0 then 1 else 4
  | .dn _ => 0
theorem PS.mu_le (M : MS) (s : PS) : s.mu M ≤ 5 := by
  cases s <;> simp only [PS.mu] <;> first | omega | (split <;> omega)
/-- What a step of a Pop may come to. -/
def PopTo (l : List Int) (s' : PS) (l' : List Int) : Prop := (s'.isPop ∧ l' = l) ∨ (s' = .dn (-1) ∧ l = [] ∧ l' = l) ∨ ∃ n, s' = .dn n ∧ l = n :: l'
/-- What a step of a Push of n may come to. -/
def PushTo (n : Int) (l : List Int) (s' : PS) (l' : List Int) : Prop := (s'.isPush n ∧ l' = l) ∨ (s' = .dn n ∧ l' = n :: l)
theorem pop_step {p : Pl} (hp : p.ok) {M : MS} {l : List Int} {T N : Nat} (hL : FL p M l T) (hT : T < 8796093022207) {s : PS} (hs : s.isPop) (ht : Th p M T s) : ∃ M' l' T' N' s', Nxt p M l T (N + 1) s M' l' T' N' s' ∧ PopTo l s' l' ∧ s'.mu M' < s.mu M := by
  cases s with
  | pl =>
    obtain ⟨M', s', h1, h2, h3, h4⟩ := go_pl (N := N + 1) hp hL
    refine ⟨M', l, T, N + 1, s', h1, ?_, ?_⟩
    · by_cases hl : l = []
      · exact .inr (.inl ⟨h2 hl, hl, rfl⟩)
      · rw [h3 hl]
        exact .inl ⟨trivial, rfl⟩
    · by_cases hl : l = []
      · rw [h2 hl]
        simp [PS.mu]
      · rw [h3 hl]
        simp [PS.mu, h4]
  | pn h =>
    obtain ⟨M', nx, h1, h4⟩ := go_pn (N := N + 1) hp hL ht
    refine ⟨M', l, T, N + 1, _, h1, .inl ⟨trivial, rfl⟩, ?_⟩
    simp only [PS.mu, h4]
    split <;> omega
  | ps h nx =>
    obtain ⟨M', l', T', N', s', h1, h2⟩ := go_ps (N := N) hp hL hT ht
    refine ⟨M', l', T', N', s', h1, ?_, ?_⟩
    · rcases h2 with ⟨n, rfl, rfl, _⟩ | ⟨rfl, rfl, _⟩
      · exact .inr (.inr ⟨n, rfl, rfl⟩)
      · exact .inl ⟨trivial, rfl⟩
    · rcases h2 with ⟨n, rfl, rfl, _, h5⟩ | ⟨rfl, rfl, _, h5⟩
      · simp [PS.mu, h5]
      · simp [PS.mu, h5]
  | ql n => exact hs.elim
  | qs n h => exact hs.elim
  | qw n h => exact hs.elim
  | dn r => exact hs.elim
theorem push_step {p : Pl} (hp : p.ok) {M : MS} {l : List Int} {T N : Nat} (hL : FL p M l T) (hT : T < 8796093022207) {n : Int} {s : PS} (hs : s.isPush n) (ht : Th p M T s) (hn : InR p n) (hnl : n ∉ l) : ∃ M' l' T' N' s', Nxt p M l T (N + 1) s M' l' T' N' s' ∧ PushTo n l s' l' ∧ s'.mu M' < s.mu M := by
  cases s with
  | pl => exact hs.elim
  | pn h => exact hs.elim
  | ps h nx => exact hs.elim
  | ql m =>
    unfold PS.isPush at hs
    subst hs
    obtain ⟨M', h, h1, h3, h4⟩ := go_ql (N := N + 1) hp hL hn
    exact ⟨M', l, T, N + 1, _, h1, .inl ⟨rfl, rfl⟩, by simp [PS.mu, h4, h3]⟩
  | qs m h =>
    unfold PS.isPush at hs
    subst hs
    obtain ⟨M', h1, h4⟩ := go_qs (N := N + 1) hp hL ht hnl
    refine ⟨M', l, T, N + 1, _, h1, .inl ⟨rfl, rfl⟩, ?_⟩
    simp only [PS.mu, h4]
    split <;> omega
  | qw m h =>
    unfold PS.isPush at hs
    subst hs
    obtain ⟨M', l', T', N', s', h1, h2⟩ := go_qw (N := N) hp hL hT ht hnl
    refine ⟨M', l', T', N', s', h1, ?_, ?_⟩
    · rcases h2 with ⟨rfl, rfl, _⟩ | ⟨rfl, rfl, _⟩
      · exact .inr ⟨rfl, rfl⟩
      · exact .inl ⟨rfl, rfl⟩
    · rcases h2 with ⟨rfl, rfl, _, h5⟩ | ⟨rfl, rfl, _, h5⟩
      · simp [PS.mu, h5]
      · simp [PS.mu, h5]
  | dn r => exact hs.elim

/-- A thread: what it is to do, how far it is, whether it is at one, whether that is a Pop, its state, how often it may begin anew, what it has. -/
structure TS where
  ps : List Bool
  at_ : Nat
  busy : Bool
  pop : Bool
  s : PS
  N : Nat
  mine : List Int
/-- What holds of a thread. -/
structure TOk (p : Pl) (M : MS) (T : Nat) (t : TS) : Prop where
  at_ : t.at_ ≤ t.ps.length
  rg : ∀ n ∈ t.mine, InR p n
  th : t.busy = true → Th p M T t.s
  isP : t.busy = true → t.pop = true → t.s.isPop
  isQ : t.busy = true → t.pop = false → ∃ rest n, t.mine = rest ++ [n] ∧ t.s.isPush n
/-- All threads, and the list: each node of the plan's is had by one, or in the list, once. -/
structure GIn (p : Pl) (M : MS) (l : List Int) (T : Nat) (ts : List TS) : Prop where
  fl : FL p M l T
  ok : ∀ t ∈ ts, TOk p M T t
  nd : (l ++ ts.flatMap TS.mine).Nodup
  ln : (l ++ ts.flatMap TS.mine).length = p.n.toNat
/-- A thread's step leaves the others as they were. -/
theorem TOk.frame {p : Pl} (hp : p.ok) {M M' : MS} {l l' : List Int} {T T' : Nat} {w : Option Int} {t : TS} (hL : FL p M l T) (hL' : FL p M' l' T') (hE : Eff p M T M' T' w) (hw : ∀ n, w = some n → n ∉ l ∧ n ∉ t.mine) (h : TOk p M T t) : TOk p M' T' t := by
  refine ⟨h.at_, h.rg, fun hb => ?_, h.isP, h.isQ⟩
  refine Th.frame hp hL hL' hE (fun n hn => ⟨(hw n hn).1, fun e => ?_⟩) (h.th hb)
  cases hpop : t.pop with
  | true =>
    rw [(h.isP hb hpop).node] at e
    cases e
  | false =>
    obtain ⟨rest, m, h1, h2⟩ := h.isQ hb hpop
    rw [h2.node] at e
    cases e
    exact (hw n hn).2 (by rw [h1]; simp)
/-- A thread behind a step of its Pop, of its Push. -/
def TS.popped (t : TS) (N' : Nat) (s' : PS) : TS := match s' with
  | .dn r => { t with busy := false, s := s', N := N', mine := if 0 ≤ r then t.mine ++ [r] else t.mine }
  | _ => { t with s := s', N := N' }
def TS.pushed (t : TS) (rest : List Int) (N' : Nat) (s' : PS) : TS := match s' with
  | .dn _ => { t with busy := false, s := s', N := N', mine := rest }
  | _ => { t with s := s', N := N' }
theorem flat_mid (a b : List TS) (t : TS) : (a ++ t :: b).flatMap TS.mine = a.flatMap TS.mine ++ (t.mine ++ b.flatMap TS.mine) := by simp
theorem perm_in (n : Int) (l A m B : List Int) : List.Perm (n :: l ++ (A ++ (m ++ B))) (l ++ (A ++ ((m ++ [n]) ++ B))) := by
  rw [List.perm_iff_count]
  intro x
  simp only [List.cons_append, List.count_cons, List.count_append, List.count_nil]
  omega
theorem GIn.notin {p : Pl} {M : MS} {l : List Int} {T : Nat} {a b : List TS} {t : TS} (h : GIn p M l T (a ++ t :: b)) {n : Int} (hn : n ∈ t.mine) : n ∉ l ∧ (∀ u ∈ a ++ b, n ∉ u.mine) := by
  have h1 := h.nd
  rw [flat_mid] at h1
  have h2 := List.nodup_append.1 h1
  have h3 := List.nodup_append.1 h2.2.1
  have h4 := List.nodup_append.1 h3.2.1
  refine ⟨fun hl => h2.2.2 n hl n (by simp [hn]) rfl, fun u hu hnu => ?_⟩
  rcases List.mem_append.1 hu with hu | hu
  · exact h3.2.2 n (List.mem_flatMap.2 ⟨u, hu, hnu⟩) n (by simp [hn]) rfl
  · exact h4.2.2 n hn n (List.mem_flatMap.2 ⟨u, hu, hnu⟩) rfl
theorem g_pop {p : Pl} (hp : p.ok) {M : MS} {l : List Int} {T N : Nat} {a b : List TS} {t : TS} (h : GIn p M l T (a ++ t :: b)) (hT : T < 8796093022207) (hb : t.busy = true) (hq : t.pop = true) (hN : t.N = N + 1) :
    ∃ M' l' T' N' s', Nxt p M l T t.N t.s M' l' T' N' s' ∧ PopTo l s' l' ∧ s'.mu M' < t.s.mu M ∧ GIn p M' l' T' (a ++ t.popped N' s' :: b) := by
  have ht := h.ok t (by simp)
  obtain ⟨M', l', T', N', s', h1, h2, hmu⟩ := pop_step (N := N) hp h.fl hT (ht.isP hb hq) (ht.th hb)
  rw [hN]
  refine ⟨M', l', T', N', s', h1, h2, hmu, h1.fl, fun u hu => ?_, ?_, ?_⟩
  · have hno : t.s.node = none := (ht.isP hb hq).node
    rcases List.mem_append.1 hu with hu | hu
    · exact (h.ok u (by simp [hu])).frame hp h.fl h1.fl h1.ef (fun n hn => by rw [hno] at hn; cases hn)
    rcases List.mem_cons.1 hu with rfl | hu
    · rcases h2 with ⟨h3, _⟩ | ⟨rfl, _, _⟩ | ⟨n, rfl, h4⟩
      · have e : t.popped N' s' = { t with s := s', N := N' } := by
          cases s' <;> first | rfl | exact h3.elim
        rw [e]
        exact ⟨ht.at_, ht.rg, fun _ => h1.th, fun _ _ => h3, fun _ hf => (by rw [hq] at hf; cases hf)⟩
      · exact ⟨ht.at_, ht.rg, fun hf => (by cases hf), fun hf => (by cases hf), fun hf => (by cases hf)⟩
      · have hn := h.fl.rg n (by rw [h4]; simp)
        refine ⟨ht.at_, fun m hm => ?_, fun hf => (by cases hf), fun hf => (by cases hf), fun hf => (by cases hf)⟩
        simp only [TS.popped, if_pos hn.1] at hm
        rcases List.mem_append.1 hm with hm | hm
        · exact ht.rg m hm
        · simp at hm
          rw [hm]
          exact hn
    · exact (h.ok u (by simp [hu])).frame hp h.fl h1.fl h1.ef (fun n hn => by rw [hno] at hn; cases hn)
  all_goals
    rcases h2 with ⟨h3, rfl⟩ | ⟨rfl, _, rfl⟩ | ⟨n, rfl, h4⟩
    · have e : (t.popped N' s').mine = t.mine := by
        cases s' <;> first | rfl | exact h3.elim
      first
        | (have := h.nd; rw [flat_mid] at this ⊢; rw [e]; exact this)
        | (have := h.ln; rw [flat_mid] at this ⊢; rw [e]; exact this)
    · first
        | (have := h.nd; rw [flat_mid] at this ⊢; exact this)
        | (have := h.ln; rw [flat_mid] at this ⊢; exact this)
    · subst h4
      have hn := h.fl.rg n (by simp)
      have e : (t.popped N' (.dn n)).mine = t.mine ++ [n] := by simp only [TS.popped, if_pos hn.1]
      first
        | (have := h.nd; rw [flat_mid] at this ⊢; rw [e]; exact ((perm_in n l' _ _ _).nodup_iff).1 this)
        | (have := h.ln; rw [flat_mid] at this ⊢; rw [e]; exact (perm_in n l' _ _ _).length_eq.symm.trans this)
theorem g_push {p : Pl} (hp : p.ok) {M : MS} {l : List Int} {T N : Nat} {a b : List TS} {t : TS} (h : GIn p M l T (a ++ t :: b)) (hT : T < 8796093022207) (hb : t.busy = true) (hq : t.pop = false) (hN : t.N = N + 1) {rest : List Int} {n : Int} (hm : t.mine = rest ++ [n]) (hs : t.s.isPush n) :
    ∃ M' l' T' N' s', Nxt p M l T t.N t.s M' l' T' N' s' ∧ PushTo n l s' l' ∧ s'.mu M' < t.s.mu M ∧ GIn p M' l' T' (a ++ t.pushed rest N' s' :: b) := by
  have ht := h.ok t (by simp)
  have hn : InR p n := ht.rg n (by rw [hm]; simp)
  obtain ⟨hnl, hno⟩ := h.notin (n := n) (by rw [hm]; simp)
  obtain ⟨M', l', T', N', s', h1, h2, hmu⟩ := push_step (N := N) hp h.fl hT hs (ht.th hb) hn hnl
  rw [hN]
  have hf : ∀ u ∈ a ++ b, TOk p M T u → TOk p M' T' u := fun u hu hk => hk.frame hp h.fl h1.fl h1.ef (fun m e => by
    rw [hs.node] at e
    cases e
    exact ⟨hnl, hno u hu⟩)
  refine ⟨M', l', T', N', s', h1, h2, hmu, h1.fl, fun u hu => ?_, ?_, ?_⟩
  · rcases List.mem_append.1 hu with hu | hu
    · exact hf u (by simp [hu]) (h.ok u (by simp [hu]))
    rcases List.mem_cons.1 hu with rfl | hu
    · rcases h2 with ⟨h3, _⟩ | ⟨rfl, _⟩
      · have e : t.pushed rest N' s' = { t with s := s', N := N' } := by
          cases s' <;> first | rfl | exact h3.elim
        rw [e]
        exact ⟨ht.at_, ht.rg, fun _ => h1.th, fun _ ht' => (by rw [hq] at ht'; cases ht'), fun _ _ => ⟨rest, n, hm, h3⟩⟩
      · exact ⟨ht.at_, fun m hm' => ht.rg m (by rw [hm]; exact List.mem_append.2 (.inl hm')), fun hf => (by cases hf), fun hf => (by cases hf), fun hf => (by cases hf)⟩
    · exact hf u (by simp [hu]) (h.ok u (by simp [hu]))
  all_goals
    rcases h2 with ⟨h3, rfl⟩ | ⟨rfl, rfl⟩
    · have e : (t.pushed rest N' s').mine = t.mine := by
        cases s' <;> first | rfl | exact h3.elim
      first
        | (have := h.nd; rw [flat_mid] at this ⊢; rw [e]; exact this)
        | (have := h.ln; rw [flat_mid] at this ⊢; rw [e]; exact this)
    · have e : (t.pushed rest N' (.dn n)).mine = rest := rfl
      first
        | (have := h.nd; rw [flat_mid, hm] at this; rw [flat_mid, e]; exact ((perm_in n l _ _ _).nodup_iff).2 this)
        | (have := h.ln; rw [flat_mid, hm] at this; rw [flat_mid, e]; exact (perm_in n l _ _ _).length_eq.trans this)
/-- How many picks a thread has left, alone, at most. -/
def TS.mu (M : MS) (t : TS) : Nat := 3 * (t.ps.length - t.at_) + if t.busy then t.s.mu M else 0
theorem TS.mu_le (M : MS) (t : TS) : t.mu M ≤ 3 * t.ps.length + 5 := by
  unfold TS.mu
  have := t.s.mu_le M
  split <;> omega
theorem TS.mu_popped {M M' : MS} {t : TS} {N' : Nat} {s' : PS} (hb : t.busy = true) (h : s'.mu M' < t.s.mu M) : (t.popped N' s').mu M' < t.mu M := by
  unfold TS.mu
  rw [if_pos hb]
  cases s' <;> simp only [TS.popped, hb, if_true, Bool.false_eq_true, if_false] <;> omega
theorem TS.mu_pushed {M M' : MS} {t : TS} {rest : List Int} {N' : Nat} {s' : PS} (hb : t.busy = true) (h : s'.mu M' < t.s.mu M) : (t.pushed rest N' s').mu M' < t.mu M := by
  unfold TS.mu
  rw [if_pos hb]
  cases s' <;> simp only [TS.pushed, hb, if_true, Bool.false_eq_true, if_false] <;> omega
/-- A thread that begins its next call; one that has nothing to push. -/
def TS.begun (t : TS) (K : Nat) (b : Bool) (s : PS) : TS := { t with at_ := t.at_ + 1, pop := b, busy := true, s := s, N := K }
def TS.skipped (t : TS) : TS := { t with at_ := t.at_ + 1, pop := false }
theorem TS.mu_begun {M : MS} {t : TS} {K : Nat} {b : Bool} {s : PS} (hb : t.busy = false) (hl : t.at_ < t.ps.length) (hs : s.mu M ≤ 3) : (t.begun K b s).mu M ≤ t.mu M := by
  unfold TS.mu TS.begun
  simp only [hb, if_true, Bool.false_eq_true, if_false]
  omega
theorem TS.mu_skipped {M : MS} {t : TS} (hb : t.busy = false) (hl : t.at_ < t.ps.length) : t.skipped.mu M < t.mu M := by
  unfold TS.mu TS.skipped
  simp only [hb, Bool.false_eq_true, if_false]
  omega
theorem GIn.put {p : Pl} {M : MS} {l : List Int} {T : Nat} {a b : List TS} {t t' : TS} (h : GIn p M l T (a ++ t :: b)) (hm : t'.mine = t.mine) (hk : TOk p M T t') : GIn p M l T (a ++ t' :: b) := by
  refine ⟨h.fl, fun u hu => ?_, ?_, ?_⟩
  · rcases List.mem_append.1 hu with hu | hu
    · exact h.ok u (by simp [hu])
    rcases List.mem_cons.1 hu with rfl | hu
    · exact hk
    · exact h.ok u (by simp [hu])
  · have := h.nd
    rw [flat_mid] at this ⊢
    rw [hm]
    exact this
  · have := h.ln
    rw [flat_mid] at this ⊢
    rw [hm]
    exact this
theorem g_begun {p : Pl} {M : MS} {l : List Int} {T K : Nat} {a b : List TS} {t : TS} (h : GIn p M l T (a ++ t :: b)) (hl : t.at_ < t.ps.length) (q : Bool) (s : PS) (hs : (q = true ∧ s = .pl) ∨ (q = false ∧ ∃ rest n, t.mine = rest ++ [n] ∧ s = .ql n)) : GIn p M l T (a ++ t.begun K q s :: b) := by
  have ht := h.ok t (by simp)
  refine h.put rfl ⟨hl, ht.rg, fun _ => ?_, fun _ hq => ?_, fun _ hq => ?_⟩
  · rcases hs with ⟨_, rfl⟩ | ⟨_, rest, n, h1, rfl⟩
    · trivial
    · exact ht.rg n (by rw [h1]; simp)
  · rcases hs with ⟨_, rfl⟩ | ⟨h0, _⟩
    · trivial
    · have : q = true := hq
      rw [h0] at this
      cases this
  · rcases hs with ⟨h0, _⟩ | ⟨_, rest, n, h1, rfl⟩
    · have : q = false := hq
      rw [h0] at this
      cases this
    · exact ⟨rest, n, h1, rfl⟩
theorem g_skipped {p : Pl} {M : MS} {l : List Int} {T : Nat} {a b : List TS} {t : TS} (h : GIn p M l T (a ++ t :: b)) (hb : t.busy = false) (hl : t.at_ < t.ps.length) : GIn p M l T (a ++ t.skipped :: b) := by
  have ht := h.ok t (by simp)
  refine h.put rfl ⟨hl, ht.rg, fun hf => ?_, fun hf => ?_, fun hf => ?_⟩
  all_goals
    have : t.busy = true := hf
    rw [hb] at this
    cases this
end Go.Proofs.Ytpidmbclgfnekaa

/-
  Rows of ints that a call has made itself, at whatever place of their block: they may be cut at both ends, and grow. No conditions but those of each theorem.
-/
namespace Go.Proofs.Ytpidmbclgfnekaa
open Go Go.RowKit

/-- v is a row of the ints l, nil or in a block of its own, from base on. -/
def IR (base : Nat) (v : Value) (l : List Int) (w : World) : Prop :=
  (v = .slice none 0 0 ∧ l = []) ∨ ∃ g off cap cur, v = .slice (some ⟨g, off, none⟩) l.length cap ∧ base ≤ g ∧ w.heap[g]? = some (.cells cur 3 (0, 0)) ∧ l.length ≤ cap ∧ off + cap ≤ cur.size ∧ ∀ i, i < l.length → cur[off + i]? = some (.int .i64 (iN l i))
theorem IR.nil (base : Nat) (w : World) : IR base (.slice none 0 0) [] w := .inl ⟨rfl, rfl⟩
theorem IR.slice {base : Nat} {v : Value} {l : List Int} {w : World} (h : IR base v l w) : ∃ a cap, v = .slice a l.length cap := by
  rcases h with ⟨rfl, rfl⟩ | ⟨g, off, cap, cur, rfl, _⟩
  · exact ⟨none, 0, rfl⟩
  · exact ⟨_, cap, rfl⟩
theorem IR.is {base : Nat} {v : Value} {l : List Int} {w : World} (h : IR base v l w) : Is w v l := by
  rcases h with ⟨rfl, rfl⟩ | ⟨g, off, cap, cur, rfl, hb, hh, hc, hs, hr⟩
  · exact ⟨none, 0, rfl, Nat.le_refl _, fun h => absurd h (Nat.not_lt_zero _)⟩
  · exact ⟨_, cap, rfl, hc, fun _ => ⟨g, off, rfl, hp_lt hh, fun i hi => cell_at hh (hr i hi)⟩⟩
theorem IR.keep {base : Nat} {v : Value} {l : List Int} {w w' : World} (h : IR base v l w) (hk : ∀ g, v.ownBlock = some g → w'.heap[g]? = w.heap[g]?) : IR base v l w' := by
  rcases h with ⟨rfl, rfl⟩ | ⟨g, off, cap, cur, rfl, hb, hh, hr⟩
  · exact .inl ⟨rfl, rfl⟩
  · exact .inr ⟨g, off, cap, cur, rfl, hb, (hk g rfl).trans hh, hr⟩
theorem IR.own {base : Nat} {v : Value} {l : List Int} {w : World} (h : IR base v l w) {g : Nat} (hg : v.ownBlock = some g) : base ≤ g ∧ ∃ cur, w.heap[g]? = some (.cells cur 3 (0, 0)) := by
  rcases h with ⟨rfl, rfl⟩ | ⟨g', off, cap, cur, rfl, hb, hh, hr⟩
  · cases hg
  · cases hg
    exact ⟨hb, cur, hh⟩
theorem IR.ext {base : Nat} {v : Value} {l : List Int} {w w' : World} (h : IR base v l w) (hx : Ext w w') : IR base v l w' :=
  h.keep fun g hg => by obtain ⟨_, cur, hh⟩ := h.own hg; exact hx.block g (hp_lt hh)
theorem IR.fr {base lo hi : Nat} {v : Value} {l : List Int} {w w' : World} (h : IR base v l w) (hx : Fr lo hi w w') (hb : hi ≤ base) : IR base v l w' :=
  h.keep fun g hg => by obtain ⟨h1, cur, hh⟩ := h.own hg; exact hx.block g (hp_lt hh) (.inr (by omega))
theorem IR.mono {base base' : Nat} {v : Value} {l : List Int} {w : World} (h : IR base v l w) (hb : base' ≤ base) : IR base' v l w := by
  rcases h with ⟨rfl, rfl⟩ | ⟨g, off, cap, cur, rfl, h1, hh, hr⟩
  · exact .inl ⟨rfl, rfl⟩
  · exact .inr ⟨g, off, cap, cur, rfl, by omega, hh, hr⟩
theorem ir_of_own {base : Nat} {v : Value} {l : List Int} {w : World} (h : w.ownsRow base 3 1 v l.length (l.map fun x => Value.int .i64 x)) : IR base v l w := by
  rcases h.2 with ⟨rfl, h2⟩ | ⟨g, cap, cur, rfl, hg, hh, hc, hm, hs, ht⟩
  · exact .inl ⟨rfl, List.eq_nil_of_length_eq_zero h2⟩
  · refine .inr ⟨g, 0, cap, cur, rfl, hg, hh, hc, by omega, fun i hi => ?_⟩
    have h3 : (cur.toList.take (l.length * 1))[i]? = (l.map fun x => Value.int .i64 x)[i]? := by rw [ht]
    rw [List.getElem?_take, if_pos (by omega), Array.getElem?_toList, List.getElem?_map, List.getElem?_eq_getElem hi] at h3
    rw [Nat.zero_add, h3]
    simp [iN, List.getD_eq_getElem?_getD, hi]
theorem iN_snoc_lt (l : List Int) (y : Int) (i : Nat) (h : i < l.length) : iN (l ++ [y]) i = iN l i := by
  simp [iN, List.getD_eq_getElem?_getD, List.getElem?_append_left h]
theorem iN_snoc_eq (l : List Int) (y : Int) : iN (l ++ [y]) l.length = y := by
  simp [iN, List.getD_eq_getElem?_getD]
theorem Try.infoI64 : (Try.prog.info? 3).map (fun i => (i.zero, i.size, i.bytes)) = some (some (.int .i64 0), 1, 8) := by kernel_rfl
/-- One more at the end. -/
theorem wpList_irow {w : World} {ops : Array Oper} {rest : List Oper} {o : Oper} {a : Act} {Q : Exit → Act → World → Prop} (hgd : o.guard = none) (s x : Operand)
    (ho : o.op = .call { callee := .builtin .append, args := #[s, x], argTypes := #[40, 40] }) (base : Nat) (v : Value) (l : List Int) (hs : a.eval s = v) (hI : IR base v l w)
    (ad : Addr) (y : Int) (hx : a.eval x = .slice (some ad) 1 1) (hc : w.cell? ad = some (.int .i64 y)) (hl : l.length ≤ 2000000) (hb : base ≤ w.heap.size)
    (h : ∀ v' w', IR base v' (l ++ [y]) w' → w.grownBy w' v.ownBlock → (v'.ownBlock = v.ownBlock ∨ ∃ g, v'.ownBlock = some g ∧ w.heap.size ≤ g) → wpList Try.prog ops Q rest (a.put o.dst v') w') : wpList Try.prog ops Q (o :: rest) a w := by
  obtain ⟨iU, hiU, hy0, hy1, hy2⟩ : ∃ i, Try.prog.info? 3 = some i ∧ i.zero = some (.int .i64 0) ∧ i.size = 1 ∧ i.bytes = 8 := by
    have h := Try.infoI64
    cases hi : Try.prog.info? 3 with
    | none => rw [hi] at h; cases h
    | some i =>
      rw [hi] at h
      simp at h
      exact ⟨i, rfl, h.1, h.2.1, h.2.2⟩
  have hnews : ∀ j u, ([.int .i64 y] : List Value)[j]? = some u → w.cell? (ad.add j) = some u := by
    intro j u hj
    match j, hj with
    | 0, hj =>
      simp at hj
      subst hj
      have := spot_none' hc
      rw [this, add_at']
      rw [this] at hc
      exact hc
  have h1 : ∀ u ∈ ([.int .i64 y] : List Value), u.oneCell' = true := by
    intro u hu
    simp at hu
    subst hu
    rfl
  have hmap : (l.map fun x => Value.int .i64 x) ++ [.int .i64 y] = (l ++ [y]).map fun x => Value.int .i64 x := by simp
  rcases hI with ⟨rfl, rfl⟩ | ⟨g, off, cap, cur, rfl, hbg, hh, hlc, hoc, hr⟩
  · refine wpList_append_grows w hgd s x 40 ho 3 iU (.int .i64 0) 1 8 Try.underlying40 hiU hy0 hy1 hy2 rfl (by decide) none 0 0 [] hs (fun _ => ⟨rfl, rfl⟩) rfl (fun b hb => by cases hb) ad 1 1 [.int .i64 y] hx rfl hnews h1 (by omega) (by unfold maxLen; omega) (by omega) ?_
    intro v' w' hown hg
    refine h v' w' ((ir_of_own (l := [y]) hown).mono hb) hg ?_
    cases ho' : v'.ownBlock with
    | none => exact .inl rfl
    | some g => exact .inr ⟨g, rfl, (hown.lt g ho').1⟩
  · have holds : ∀ j u, (l.map fun x => Value.int .i64 x)[j]? = some u → w.cell? ⟨g, off + j, none⟩ = some u := by
      intro j u hj
      have hj' : j < l.length := by
        have := (List.getElem?_eq_some_iff.1 hj).1
        simpa using this
      rw [List.getElem?_map, List.getElem?_eq_getElem hj'] at hj
      simp at hj
      refine cell_at hh ((hr j hj').trans ?_)
      rw [← hj]
      simp [iN, List.getD_eq_getElem?_getD, hj']
    refine wpList_append_arg w hgd s x 40 ho 3 iU (.int .i64 0) 1 8 Try.underlying40 hiU hy0 hy1 hy2 rfl (by decide) g off l.length cap _ hs (by simp) holds ad 1 1 [.int .i64 y] hx rfl hnews h1 ?_ (by unfold maxLen; omega) (by omega) ?_ ?_
    · intro hroom j hj
      have hlt : off + l.length * 1 + j < cur.size := by simp at hj; omega
      refine ⟨?_, free_at hh⟩
      rw [cell_at hh (Array.getElem?_eq_getElem hlt)]
      rfl
    · intro hroom
      have e : w.setCells g (off + l.length * 1) [.int .i64 y] = w.setCell ⟨g, off + l.length, none⟩ (.int .i64 y) := by simp [World.setCells]
      rw [e]
      have hh' := set_same (o := off + l.length) (.int .i64 y) hh
      refine h _ _ (.inr ⟨g, off, cap, _, ?_, hbg, hh', ?_, ?_, fun i hi => ?_⟩) ⟨rfl, rfl, rfl, by rw [set_size]; exact Nat.le_refl _, fun k _ hk => set_other _ (fun e => hk (by rw [e]; rfl))⟩ (.inl rfl)
      · simp
      · simp; omega
      · simpa using hoc
      · simp only [List.length_append, List.length_cons, List.length_nil] at hi
        by_cases hi' : i < l.length
        · rw [iN_snoc_lt l y i hi', Array.getElem?_setIfInBounds_ne (by omega)]
          exact hr i hi'
        · obtain rfl : i = l.length := by omega
          rw [iN_snoc_eq, Array.getElem?_setIfInBounds_self_of_lt (by omega)]
    · intro hfull v' w' hown hg
      refine h v' w' ((ir_of_own (l := l ++ [y]) (by rw [← hmap]; simpa using hown)).mono hb) ⟨hg.os, hg.tape, hg.output, hg.size, fun k hk _ => hg.block k hk (by simp)⟩ ?_
      cases ho' : v'.ownBlock with
      | none => 
        exfalso
        rcases hown.2 with ⟨_, h2⟩ | ⟨g', cap', cur', e', _⟩
        · omega
        · rw [e'] at ho'
          cases ho'
      | some g' => exact .inr ⟨g', rfl, (hown.lt g' ho').1⟩
/-- Without its last one; without its first one. -/
theorem IR.init {base g off n cap : Nat} {l : List Int} {y : Int} {w : World} (h : IR base (.slice (some ⟨g, off, none⟩) n cap) (l ++ [y]) w) : IR base (.slice (some ⟨g, off, none⟩) l.length cap) l w := by
  rcases h with ⟨h, _⟩ | ⟨g', off', cap', cur, e, hb, hh, hc, hs, hr⟩
  · cases h
  · simp at e
    obtain ⟨⟨rfl, rfl⟩, _, rfl⟩ := e
    refine .inr ⟨_, _, _, cur, rfl, hb, hh, by simp at hc; omega, hs, fun i hi => ?_⟩
    rw [hr i (by simp; omega), iN_snoc_lt l y i hi]
theorem IR.tail {base g off n cap : Nat} {l : List Int} {y : Int} {w : World} (h : IR base (.slice (some ⟨g, off, none⟩) n cap) (y :: l) w) (off' : Nat) (ho : off' = off + 1 ∨ (cap = 1 ∧ off' = off)) : IR base (.slice (some ⟨g, off', none⟩) l.length (cap - 1)) l w := by
  rcases h with ⟨h, _⟩ | ⟨g', off1, cap', cur, e, hb, hh, hc, hs, hr⟩
  · cases h
  · simp at e
    obtain ⟨⟨rfl, rfl⟩, _, rfl⟩ := e
    simp only [List.length_cons] at hc hr
    refine .inr ⟨_, off', _, cur, rfl, hb, hh, by omega, by omega, fun i hi => ?_⟩
    have := hr (i + 1) (by omega)
    rcases ho with rfl | ⟨rfl, rfl⟩
    · rw [show off + 1 + i = off + (i + 1) by omega, this]
      simp [iN]
    · omega
theorem IR.some {base : Nat} {v : Value} {l : List Int} {w : World} (h : IR base v l w) (hl : 0 < l.length) : ∃ g off cap, v = .slice (some ⟨g, off, none⟩) l.length cap ∧ g < w.heap.size ∧ base ≤ g ∧ l.length ≤ cap ∧ ∀ i, i < l.length → w.cell? ⟨g, off + i, none⟩ = some (.int .i64 (iN l i)) := by
  rcases h with ⟨rfl, rfl⟩ | ⟨g, off, cap, cur, rfl, hb, hh, hc, hs, hr⟩
  · exact absurd hl (Nat.not_lt_zero _)
  · exact ⟨g, off, cap, rfl, hp_lt hh, hb, hc, fun i hi => cell_at hh (hr i hi)⟩
/-- The frames that an append keeps. -/
theorem grown_ext {w0 w w' : World} {v : Value} {base : Nat} {l : List Int} (h : Ext w0 w) (hI : IR base v l w) (hg : w.grownBy w' v.ownBlock) (hb : w0.heap.size ≤ base) : Ext w0 w' :=
  ⟨hg.os.trans h.os, hg.tape.trans h.tape, hg.output.trans h.output, Nat.le_trans h.size hg.size, fun k hk => (hg.block k (Nat.lt_of_lt_of_le hk h.size) (fun e => by have := (hI.own e.symm).1; omega)).trans (h.block k hk)⟩
theorem grown_at {w w' : World} {v : Value} {base k : Nat} {l : List Int} (hI : IR base v l w) (hg : w.grownBy w' v.ownBlock) (hk : k < w.heap.size) (hb : k < base) : w'.heap[k]? = w.heap[k]? :=
  hg.block k hk (fun e => by have := (hI.own e.symm).1; omega)
end Go.Proofs.Ytpidmbclgfnekaa
