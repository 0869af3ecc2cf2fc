/-
  Whole runs of Pop, Push and Fresh, in plain numbers. Conditions: a formed plan; fewer swaps than a tag can tell.
-/
import Derived.Test.YtlapcocljjgjlaaGreatGay
import Derived.ArgAppend
import Derived.OwnWalk
namespace Go.Proofs.YtlapcocljjgjlaaGreat
open Go Go.RowKit

/-- What a run leaves to a thread that stands still. -/
def Keeps (p : Pl) (M : MS) (T : Nat) (M' : MS) (T' : Nat) (w : Option Int) : Prop := ∀ s : PS, (∀ n, w = some n → s.node ≠ some n) → Th p M T s → Th p M' T' s
theorem Nxt.keeps {p : Pl} (hp : p.ok) {M : MS} {l : List Int} {T N : Nat} {s : PS} {M' : MS} {l' : List Int} {T' N' : Nat} {s' : PS} (hL : FL p M l T) (h : Nxt p M l T N s M' l' T' N' s') (hs : ∀ n, s.node = some n → n ∉ l) : Keeps p M T M' T' s.node :=
  fun _ hq ht => Th.frame hp hL h.fl h.ef (fun n hn => ⟨hs n hn, hq n hn⟩) ht
theorem Keeps.trans {p : Pl} {M M' M'' : MS} {T T' T'' : Nat} {w : Option Int} (h : Keeps p M T M' T' w) (k : Keeps p M' T' M'' T'' w) : Keeps p M T M'' T'' w := fun s hs ht => k s hs (h s hs ht)

theorem pop_none {p : Pl} (hp : p.ok) {M : MS} {T : Nat} (hL : FL p M [] T) (N k : Nat) :
    ∃ M', runT 0 1#64 (k + 1) (popT p (N + 1)) M = some (M', 1, .done (-1)) ∧ FL p M' [] T ∧ Keeps p M T M' T none := by
  obtain ⟨M', s', h1, h2, _, h4⟩ := go_pl (N := N) hp hL
  have e := h2 rfl
  subst e
  refine ⟨M', ?_, h1.fl, Nxt.keeps hp hL h1 (fun n h => by cases h)⟩
  have := runT_step h1.st k
  rw [show popT p (N + 1) = trT p N .pl from rfl, this]
  cases k <;> rfl
theorem pop_some {p : Pl} (hp : p.ok) {M : MS} {n : Int} {l : List Int} {T : Nat} (hL : FL p M (n :: l) T) (hT : T < 8796093022207) (N k : Nat) :
    ∃ M', runT 0 1#64 (k + 3) (popT p (N + 2)) M = some (M', 3, .done n) ∧ FL p M' l (T + 1) ∧ Keeps p M T M' (T + 1) none := by
  obtain ⟨M1, s1, a1, _, a3, a4⟩ := go_pl (N := N + 1) hp hL
  have e := a3 (by simp)
  subst e
  obtain ⟨M2, nx, b1, b2⟩ := go_pn (N := N + 1) hp a1.fl a1.th
  obtain ⟨M3, l3, T3, N3, s3, c1, c2⟩ := go_ps (N := N) hp b1.fl hT b1.th
  have hh : M.wd 0 0 = M2.wd 0 0 := by rw [b2, a4]
  have k1 := Nxt.keeps hp hL a1 (fun n h => by cases h)
  have k2 := Nxt.keeps hp a1.fl b1 (fun n h => by cases h)
  have k3 := Nxt.keeps hp b1.fl c1 (fun n h => by cases h)
  rcases c2 with ⟨m, d1, rfl, rfl, d4⟩ | ⟨_, _, _, d4⟩
  · simp at d1
    obtain ⟨rfl, rfl⟩ := d1
    refine ⟨M3, ?_, c1.fl, (Keeps.trans k1 k2).trans k3⟩
    rw [show popT p (N + 2) = trT p (N + 1) .pl from rfl, runT_step a1.st, runT_step b1.st, runT_step c1.st]
    cases k <;> rfl
  · exact absurd hh d4
theorem push_run {p : Pl} (hp : p.ok) {M : MS} {n : Int} {l : List Int} {T : Nat} (hL : FL p M l T) (hT : T < 8796093022207) (hn : InR p n) (hnl : n ∉ l) (N k : Nat) :
    ∃ M', runT 0 1#64 (k + 3) (pushT p n (N + 2)) M = some (M', 3, .done n) ∧ FL p M' (n :: l) (T + 1) ∧ Keeps p M T M' (T + 1) (some n) := by
  obtain ⟨M1, h, a1, a2, a4⟩ := go_ql (N := N + 1) hp hL hn
  obtain ⟨M2, b1, b2⟩ := go_qs (N := N + 1) hp a1.fl a1.th hnl
  obtain ⟨M3, l3, T3, N3, s3, c1, c2⟩ := go_qw (N := N) hp b1.fl hT b1.th hnl
  have hh : h = M2.wd 0 0 := by rw [b2, a4, a2]
  have k1 := Nxt.keeps hp hL a1 (fun m h => by cases h; exact hnl)
  have k2 := Nxt.keeps hp a1.fl b1 (fun m h => by cases h; exact hnl)
  have k3 := Nxt.keeps hp b1.fl c1 (fun m h => by cases h; exact hnl)
  rcases c2 with ⟨rfl, rfl, rfl, _⟩ | ⟨_, _, _, d4⟩
  · refine ⟨M3, ?_, c1.fl, (Keeps.trans k1 k2).trans k3⟩
    rw [show pushT p n (N + 2) = trT p (N + 1) (.ql n) from rfl, runT_step a1.st, runT_step b1.st, runT_step c1.st]
    cases k <;> rfl
  · exact absurd hh d4

/-! Fresh. -/
def rfr : Nat → Int → List Int
  | 0, _ => []
  | k + 1, j => j :: rfr k (j + 1)
theorem rfr_len : ∀ (k : Nat) (j : Int), (rfr k j).length = k
  | 0, _ => rfl
  | k + 1, j => by simp [rfr, rfr_len k (j + 1)]
theorem rfr_mem : ∀ {k : Nat} {j m : Int}, m ∈ rfr k j ↔ j ≤ m ∧ m < j + k
  | 0, j, m => by
    constructor
    · intro h; cases h
    · intro h; omega
  | k + 1, j, m => by
    simp only [rfr, List.mem_cons, rfr_mem (k := k) (j := j + 1)]
    omega
theorem rfr_nodup : ∀ (k : Nat) (j : Int), (rfr k j).Nodup
  | 0, _ => List.nodup_nil
  | k + 1, j => List.nodup_cons.2 ⟨fun h => by have := (rfr_mem.1 h).1; omega, rfr_nodup k (j + 1)⟩
theorem fresh_run {p : Pl} (hp : p.ok) : ∀ (k : Nat) (n : Int) (M : MS), 0 ≤ n → n + k = p.n → Mg p M →
    ∃ M', runT 0 1#64 (k + 1) (freshT p k n) M = some (M', k + 1, .done ()) ∧ Mg p M' ∧ M'.wd 0 0 = putN 0 21 0#64 (nameW 0) ∧ (∀ m, InR p m → n ≤ m → M'.wd 0 (nxN p m) = fnxW p m) ∧ (∀ m, InR p m → m < n → M'.wd 0 (nxN p m) = M.wd 0 (nxN p m))
  | 0, n, M, h0, h1, hM => by
    have hz := head_zero hp
    have hok : DoOk M 0 1#64 1 p.headF := by rw [hz]; exact hM.ok (by omega) (by have := size_pos hp; omega) (by omega) (by omega)
    have hw := wd_store M p.headF (putN 0 21 0#64 (nameW 0)) 0#64
    refine ⟨M.done 0 1 p.headF (putN 0 21 0#64 (nameW 0)) 0#64, ?_, hM.done _ _ _ _ _, ?_, fun m hm hnm => ?_, fun m hm _ => ?_⟩
    · show runT 0 1#64 1 (.ask (stA p.headF _) _) M = _
      rw [runT, if_pos (show DoOk M 0 1#64 (stA p.headF _).op (stA p.headF _).at_ from hok)]
      rfl
    · rw [hw, hz]
      rfl
    · have := hm.2
      omega
    · rw [hw, hz]
      exact if_neg (nxN_pos hp hm)
  | k + 1, n, M, h0, h1, hM => by
    have hn : InR p n := ⟨h0, by omega⟩
    have hx := nx_in hp hn
    have hok : DoOk M 0 1#64 1 (p.nxF n) := hM.ok (by omega) hx.2 (by omega) (by omega)
    have hw := wd_store M (p.nxF n) (fnxW p n) 0#64
    obtain ⟨M', r1, r2, r3, r4, r5⟩ := fresh_run hp k (n + 1) (M.done 0 1 (p.nxF n) (fnxW p n) 0#64) (by omega) (by omega) (hM.done _ _ _ _ _)
    refine ⟨M', ?_, r2, r3, fun m hm hnm => ?_, fun m hm hnm => ?_⟩
    · show runT 0 1#64 (k + 1 + 1) (.ask (stA (p.nxF n) _) _) M = _
      rw [runT, if_pos (show DoOk M 0 1#64 (stA (p.nxF n) _).op (stA (p.nxF n) _).at_ from hok)]
      show Option.map _ (runT 0 1#64 (k + 1) (freshT p k (n + 1)) (M.done 0 1 (p.nxF n) (fnxW p n) 0#64)) = _
      rw [r1]
      rfl
    · by_cases e : m = n
      · subst e
        rw [r5 m hm (by omega), hw]
        exact if_pos rfl
      · exact r4 m hm (by omega)
    · rw [r5 m hm (by omega), hw]
      exact if_neg fun e => by have := nxN_inj hp hm hn e; omega
theorem fresh_ch {p : Pl} {M : MS} (h : ∀ m, InR p m → M.wd 0 (nxN p m) = fnxW p m) : ∀ (k : Nat) (j : Int), 0 ≤ j → j + k = p.n → Ch p M (rfr k j)
  | 0, _, _, _ => trivial
  | k + 1, j, h0, h1 => by
    refine ⟨?_, fresh_ch h k (j + 1) (by omega) (by omega)⟩
    rw [h j ⟨h0, by omega⟩]
    unfold fnxW
    cases k with
    | zero => rw [if_pos (by omega)]; rfl
    | succ k => rw [if_neg (by omega)]; rfl
theorem fresh_FL {p : Pl} (hp : p.ok) {M : MS} (hM : Mg p M) : ∃ M', runT 0 1#64 (p.n + 1).toNat (freshT p p.n.toNat 0) M = some (M', p.n.toNat + 1, .done ()) ∧ FL p M' (rfr p.n.toNat 0) 0 := by
  have h1 := hp.1
  obtain ⟨M', r1, r2, r3, r4, _⟩ := fresh_run hp p.n.toNat 0 M (by omega) (by omega) hM
  refine ⟨M', by rw [show (p.n + 1).toNat = p.n.toNat + 1 by omega]; exact r1, r2, ?_, ?_, fresh_ch (fun m hm => r4 m hm hm.1) _ _ (by omega) (by omega), rfr_nodup _ _, fun m hm => ?_⟩
  · rw [r3, nd_fresh]
    obtain ⟨k, hk⟩ : ∃ k, p.n.toNat = k + 1 := ⟨p.n.toNat - 1, by omega⟩
    rw [hk]
    rfl
  · rw [r3, tag_fresh]
    rfl
  · have := rfr_mem.1 hm
    exact ⟨by omega, by omega⟩
theorem nodup_len : ∀ (l m : List Int), l.Nodup → (∀ x ∈ l, x ∈ m) → l.length ≤ m.length
  | [], _, _, _ => Nat.zero_le _
  | x :: l, m, hn, hs => by
    have hx := hs x (by simp)
    have h1 := List.nodup_cons.1 hn
    have h2 := nodup_len l (m.erase x) h1.2 fun y hy => by
      have hne : y ≠ x := fun e => h1.1 (e ▸ hy)
      exact (List.mem_erase_of_ne hne).2 (hs y (by simp [hy]))
    have h3 := List.length_erase_of_mem hx
    have h4 := List.length_pos_of_mem hx
    simp only [List.length_cons]
    omega
/-- Numbers that are a plan's, each once, are no more than it has. -/
theorem nodup_le {p : Pl} (h0 : 0 ≤ p.n) {l : List Int} (hn : l.Nodup) (hr : ∀ n ∈ l, InR p n) : (l.length : Int) ≤ p.n := by
  have := nodup_len l (rfr p.n.toNat 0) hn fun m hm => rfr_mem.2 ⟨(hr m hm).1, by have := (hr m hm).2; omega⟩
  rw [rfr_len] at this
  omega
theorem Mg.zero (p : Pl) : Mg p (M0 [p.sizeF] 1) := ⟨rfl, rfl, rfl⟩
end Go.Proofs.YtlapcocljjgjlaaGreat

/-
  Rows of ints that a call has made itself, at whatever place of their block: they may be cut at both ends, and grow. No conditions but those of each theorem.
-/
namespace Go.Proofs.YtlapcocljjgjlaaGreat
open Go Go.RowKit

/-- v is a row of the ints l, nil or in a block of its own, from base on. -/
def IR (base : Nat) (v : Value) (l : List Int) (w : World) : Prop :=
  (v = .slice none 0 0 ∧ l = []) ∨ ∃ g off cap cur, v = .slice (some ⟨g, off, none⟩) l.length cap ∧ base ≤ g ∧ w.heap[g]? = some (.cells cur 3 (0, 0)) ∧ l.length ≤ cap ∧ off + cap ≤ cur.size ∧ ∀ i, i < l.length → cur[off + i]? = some (.int .i64 (iN l i))
theorem IR.nil (base : Nat) (w : World) : IR base (.slice none 0 0) [] w := .inl ⟨rfl, rfl⟩
theorem IR.slice {base : Nat} {v : Value} {l : List Int} {w : World} (h : IR base v l w) : ∃ a cap, v = .slice a l.length cap := by
  rcases h with ⟨rfl, rfl⟩ | ⟨g, off, cap, cur, rfl, _⟩
  · exact ⟨none, 0, rfl⟩
  · exact ⟨_, cap, rfl⟩
theorem IR.is {base : Nat} {v : Value} {l : List Int} {w : World} (h : IR base v l w) : Is w v l := by
  rcases h with ⟨rfl, rfl⟩ | ⟨g, off, cap, cur, rfl, hb, hh, hc, hs, hr⟩
  · exact ⟨none, 0, rfl, Nat.le_refl _, fun h => absurd h (Nat.not_lt_zero _)⟩
  · exact ⟨_, cap, rfl, hc, fun _ => ⟨g, off, rfl, hp_lt hh, fun i hi => cell_at hh (hr i hi)⟩⟩
theorem IR.keep {base : Nat} {v : Value} {l : List Int} {w w' : World} (h : IR base v l w) (hk : ∀ g, v.ownBlock = some g → w'.heap[g]? = w.heap[g]?) : IR base v l w' := by
  rcases h with ⟨rfl, rfl⟩ | ⟨g, off, cap, cur, rfl, hb, hh, hr⟩
  · exact .inl ⟨rfl, rfl⟩
  · exact .inr ⟨g, off, cap, cur, rfl, hb, (hk g rfl).trans hh, hr⟩
theorem IR.own {base : Nat} {v : Value} {l : List Int} {w : World} (h : IR base v l w) {g : Nat} (hg : v.ownBlock = some g) : base ≤ g ∧ ∃ cur, w.heap[g]? = some (.cells cur 3 (0, 0)) := by
  rcases h with ⟨rfl, rfl⟩ | ⟨g', off, cap, cur, rfl, hb, hh, hr⟩
  · cases hg
  · cases hg
    exact ⟨hb, cur, hh⟩
theorem IR.ext {base : Nat} {v : Value} {l : List Int} {w w' : World} (h : IR base v l w) (hx : Ext w w') : IR base v l w' :=
  h.keep fun g hg => by obtain ⟨_, cur, hh⟩ := h.own hg; exact hx.block g (hp_lt hh)
theorem IR.fr {base lo hi : Nat} {v : Value} {l : List Int} {w w' : World} (h : IR base v l w) (hx : Fr lo hi w w') (hb : hi ≤ base) : IR base v l w' :=
  h.keep fun g hg => by obtain ⟨h1, cur, hh⟩ := h.own hg; exact hx.block g (hp_lt hh) (.inr (by omega))
theorem IR.mono {base base' : Nat} {v : Value} {l : List Int} {w : World} (h : IR base v l w) (hb : base' ≤ base) : IR base' v l w := by
  rcases h with ⟨rfl, rfl⟩ | ⟨g, off, cap, cur, rfl, h1, hh, hr⟩
  · exact .inl ⟨rfl, rfl⟩
  · exact .inr ⟨g, off, cap, cur, rfl, by omega, hh, hr⟩
theorem ir_of_own {base : Nat} {v : Value} {l : List Int} {w : World} (h : w.ownsRow base 3 1 v l.length (l.map fun x => Value.int .i64 x)) : IR base v l w := by
  rcases h.2 with ⟨rfl, h2⟩ | ⟨g, cap, cur, rfl, hg, hh, hc, hm, hs, ht⟩
  · exact .inl ⟨rfl, List.eq_nil_of_length_eq_zero h2⟩
  · refine .inr ⟨g, 0, cap, cur, rfl, hg, hh, hc, by omega, fun i hi => ?_⟩
    have h3 : (cur.toList.take (l.length * 1))[i]? = (l.map fun x => Value.int .i64 x)[i]? := by rw [ht]
    rw [List.getElem?_take, if_pos (by omega), Array.getElem?_toList, List.getElem?_map, List.getElem?_eq_getElem hi] at h3
    rw [Nat.zero_add, h3]
    simp [iN, List.getD_eq_getElem?_getD, hi]
theorem iN_snoc_lt (l : List Int) (y : Int) (i : Nat) (h : i < l.length) : iN (l ++ [y]) i = iN l i := by
  simp [iN, List.getD_eq_getElem?_getD, List.getElem?_append_left h]
theorem iN_snoc_eq (l : List Int) (y : Int) : iN (l ++ [y]) l.length = y := by
  simp [iN, List.getD_eq_getElem?_getD]
theorem Tryz.infoI64 : (Tryz.prog.info? 3).map (fun i => (i.zero, i.size, i.bytes)) = some (some (.int .i64 0), 1, 8) := by kernel_rfl
/-- One more at the end. -/
theorem wpList_irow {w : World} {ops : Array Oper} {rest : List Oper} {o : Oper} {a : Act} {Q : Exit → Act → World → Prop} (hgd : o.guard = none) (s x : Operand)
    (ho : o.op = .call { callee := .builtin .append, args := #[s, x], argTypes := #[24, 24] }) (base : Nat) (v : Value) (l : List Int) (hs : a.eval s = v) (hI : IR base v l w)
    (ad : Addr) (y : Int) (hx : a.eval x = .slice (some ad) 1 1) (hc : w.cell? ad = some (.int .i64 y)) (hl : l.length ≤ 2000000) (hb : base ≤ w.heap.size)
    (h : ∀ v' w', IR base v' (l ++ [y]) w' → w.grownBy w' v.ownBlock → (v'.ownBlock = v.ownBlock ∨ ∃ g, v'.ownBlock = some g ∧ w.heap.size ≤ g) → wpList Tryz.prog ops Q rest (a.put o.dst v') w') : wpList Tryz.prog ops Q (o :: rest) a w := by
  obtain ⟨iU, hiU, hy0, hy1, hy2⟩ : ∃ i, Tryz.prog.info? 3 = some i ∧ i.zero = some (.int .i64 0) ∧ i.size = 1 ∧ i.bytes = 8 := by
    have h := Tryz.infoI64
    cases hi : Tryz.prog.info? 3 with
    | none => rw [hi] at h; cases h
    | some i =>
      rw [hi] at h
      simp at h
      exact ⟨i, rfl, h.1, h.2.1, h.2.2⟩
  have hnews : ∀ j u, ([.int .i64 y] : List Value)[j]? = some u → w.cell? (ad.add j) = some u := by
    intro j u hj
    match j, hj with
    | 0, hj =>
      simp at hj
      subst hj
      have := spot_none' hc
      rw [this, add_at']
      rw [this] at hc
      exact hc
  have h1 : ∀ u ∈ ([.int .i64 y] : List Value), u.oneCell' = true := by
    intro u hu
    simp at hu
    subst hu
    rfl
  have hmap : (l.map fun x => Value.int .i64 x) ++ [.int .i64 y] = (l ++ [y]).map fun x => Value.int .i64 x := by simp
  rcases hI with ⟨rfl, rfl⟩ | ⟨g, off, cap, cur, rfl, hbg, hh, hlc, hoc, hr⟩
  · refine wpList_append_grows w hgd s x 24 ho 3 iU (.int .i64 0) 1 8 Tryz.underlying24 hiU hy0 hy1 hy2 rfl (by decide) none 0 0 [] hs (fun _ => ⟨rfl, rfl⟩) rfl (fun b hb => by cases hb) ad 1 1 [.int .i64 y] hx rfl hnews h1 (by omega) (by unfold maxLen; omega) (by omega) ?_
    intro v' w' hown hg
    refine h v' w' ((ir_of_own (l := [y]) hown).mono hb) hg ?_
    cases ho' : v'.ownBlock with
    | none => exact .inl rfl
    | some g => exact .inr ⟨g, rfl, (hown.lt g ho').1⟩
  · have holds : ∀ j u, (l.map fun x => Value.int .i64 x)[j]? = some u → w.cell? ⟨g, off + j, none⟩ = some u := by
      intro j u hj
      have hj' : j < l.length := by
        have := (List.getElem?_eq_some_iff.1 hj).1
        simpa using this
      rw [List.getElem?_map, List.getElem?_eq_getElem hj'] at hj
      simp at hj
      refine cell_at hh ((hr j hj').trans ?_)
      rw [← hj]
      simp [iN, List.getD_eq_getElem?_getD, hj']
    refine wpList_append_arg w hgd s x 24 ho 3 iU (.int .i64 0) 1 8 Tryz.underlying24 hiU hy0 hy1 hy2 rfl (by decide) g off l.length cap _ hs (by simp) holds ad 1 1 [.int .i64 y] hx rfl hnews h1 ?_ (by unfold maxLen; omega) (by omega) ?_ ?_
    · intro hroom j hj
      have hlt : off + l.length * 1 + j < cur.size := by simp at hj; omega
      refine ⟨?_, free_at hh⟩
      rw [cell_at hh (Array.getElem?_eq_getElem hlt)]
      rfl
    · intro hroom
      have e : w.setCells g (off + l.length * 1) [.int .i64 y] = w.setCell ⟨g, off + l.length, none⟩ (.int .i64 y) := by simp [World.setCells]
      rw [e]
      have hh' := set_same (o := off + l.length) (.int .i64 y) hh
      refine h _ _ (.inr ⟨g, off, cap, _, ?_, hbg, hh', ?_, ?_, fun i hi => ?_⟩) ⟨rfl, rfl, rfl, by rw [set_size]; exact Nat.le_refl _, fun k _ hk => set_other _ (fun e => hk (by rw [e]; rfl))⟩ (.inl rfl)
      · simp
      · simp; omega
      · simpa using hoc
      · simp only [List.length_append, List.length_cons, List.length_nil] at hi
        by_cases hi' : i < l.length
        · rw [iN_snoc_lt l y i hi', Array.getElem?_setIfInBounds_ne (by omega)]
          exact hr i hi'
        · obtain rfl : i = l.length := by omega
          rw [iN_snoc_eq, Array.getElem?_setIfInBounds_self_of_lt (by omega)]
    · intro hfull v' w' hown hg
      refine h v' w' ((ir_of_own (l := l ++ [y]) (by rw [← hmap]; simpa using hown)).mono hb) ⟨hg.os, hg.tape, hg.output, hg.size, fun k hk _ => hg.block k hk (by simp)⟩ ?_
      cases ho' : v'.ownBlock with
      | none => 
        exfalso
        rcases hown.2 with ⟨_, h2⟩ | ⟨g', cap', cur', e', _⟩
        · omega
        · rw [e'] at ho'
          cases ho'
      | some g' => exact .inr ⟨g', rfl, (hown.lt g' ho').1⟩
/-- Without its last one; without its first one. -/
theorem IR.init {base g off n cap : Nat} {l : List Int} {y : Int} {w : World} (h : IR base (.slice (some ⟨g, off, none⟩) n cap) (l ++ [y]) w) : IR base (.slice (some ⟨g, off, none⟩) l.length cap) l w := by
  rcases h with ⟨h, _⟩ | ⟨g', off', cap', cur, e, hb, hh, hc, hs, hr⟩
  · cases h
  · simp at e
    obtain ⟨⟨rfl, rfl⟩, _, rfl⟩ := e
    refine .inr ⟨_, _, _, cur, rfl, hb, hh, by simp at hc; omega, hs, fun i hi => ?_⟩
    rw [hr i (by simp; omega), iN_snoc_lt l y i hi]
theorem IR.tail {base g off n cap : Nat} {l : List Int} {y : Int} {w : World} (h : IR base (.slice (some ⟨g, off, none⟩) n cap) (y :: l) w) (off' : Nat) (ho : off' = off + 1 ∨ (cap = 1 ∧ off' = off)) : IR base (.slice (some ⟨g, off', none⟩) l.length (cap - 1)) l w := by
  rcases h with ⟨h, _⟩ | ⟨g', off1, cap', cur, e, hb, hh, hc, hs, hr⟩
  · cases h
  · simp at e
    obtain ⟨⟨rfl, rfl⟩, _, rfl⟩ := e
    simp only [List.length_cons] at hc hr
    refine .inr ⟨_, off', _, cur, rfl, hb, hh, by omega, by omega, fun i hi => ?_⟩
    have := hr (i + 1) (by omega)
    rcases ho with rfl | ⟨rfl, rfl⟩
    · rw [show off + 1 + i = off + (i + 1) by omega, this]
      simp [iN]
    · omega
theorem IR.some {base : Nat} {v : Value} {l : List Int} {w : World} (h : IR base v l w) (hl : 0 < l.length) : ∃ g off cap, v = .slice (some ⟨g, off, none⟩) l.length cap ∧ g < w.heap.size ∧ base ≤ g ∧ l.length ≤ cap ∧ ∀ i, i < l.length → w.cell? ⟨g, off + i, none⟩ = some (.int .i64 (iN l i)) := by
  rcases h with ⟨rfl, rfl⟩ | ⟨g, off, cap, cur, rfl, hb, hh, hc, hs, hr⟩
  · exact absurd hl (Nat.not_lt_zero _)
  · exact ⟨g, off, cap, rfl, hp_lt hh, hb, hc, fun i hi => cell_at hh (hr i hi)⟩
/-- The frames that an append keeps. -/
theorem grown_ext {w0 w w' : World} {v : Value} {base : Nat} {l : List Int} (h : Ext w0 w) (hI : IR base v l w) (hg : w.grownBy w' v.ownBlock) (hb : w0.heap.size ≤ base) : Ext w0 w' :=
  ⟨hg.os.trans h.os, hg.tape.trans h.tape, hg.output.trans h.output, Nat.le_trans h.size hg.size, fun k hk => (hg.block k (Nat.lt_of_lt_of_le hk h.size) (fun e => by have := (hI.own e.symm).1; omega)).trans (h.block k hk)⟩
theorem grown_at {w w' : World} {v : Value} {base k : Nat} {l : List Int} (hI : IR base v l w) (hg : w.grownBy w' v.ownBlock) (hk : k < w.heap.size) (hb : k < base) : w'.heap[k]? = w.heap[k]? :=
  hg.block k hk (fun e => by have := (hI.own e.symm).1; omega)
end Go.Proofs.YtlapcocljjgjlaaGreat

/-
  What the call of List comes to. Conditions: a formed plan, whose list stands in the memory.
-/
namespace Go.Proofs.YtlapcocljjgjlaaGreat
open Go Go.RowKit

theorem wrap64u (x : Int) (h0 : 0 ≤ x) (h1 : x < 18446744073709551616) : IntKind.u64.wrap x = x := by
  rw [IntKind.wrap_u64]
  omega
theorem Ch.at {p : Pl} {M : MS} {n : Int} {l3 : List Int} : ∀ {l1 : List Int}, Ch p M (l1 ++ n :: l3) → M.wd 0 (nxN p n) = nmL l3
  | [], h => h.1
  | _ :: l1, h => Ch.at (l1 := l1) h.2
set_option maxHeartbeats 1000000 in
theorem named_no (p : Pl) (w : World) : Calls Tryz.prog 61 #[plV p, .int .u64 0] w (Ret (.bool false) w) := by
  go_enter Tryz.func61, Tryz.ntmps61
  go_wp2
  go_ret
  exact Ret.mk (by repeat (first | exact ext_refl _ | apply ext_alloc))
set_option maxHeartbeats 1000000 in
theorem named_yes (p : Pl) (n : Int) (h0 : 0 ≤ n) (h1 : n < p.n) (h2 : p.n ≤ 1048576) (w : World) : Calls Tryz.prog 61 #[plV p, .int .u64 (n + 1)] w (Ret (.bool true) w) := by
  have e0 : ((n + 1 : Int) == 0) = false := by simp; omega
  have e0' : ¬ n + 1 = 0 := by omega
  have e1 : IntKind.u64.wrap p.n = p.n := wrap64u p.n (by omega) (by omega)
  have e2 : decide (n + 1 ≤ p.n) = true := by simp; omega
  go_enter Tryz.func61, Tryz.ntmps61
  go_wp2
  go_ret
  exact Ret.bool (y := (n + 1 != 0)) (by simp; omega) (by repeat (first | exact ext_refl _ | apply ext_alloc))
set_option maxHeartbeats 1000000 in
theorem node_int (n : Int) (h0 : 0 ≤ n) (h1 : n < 2097152) (w : World) : Calls Tryz.prog 62 #[.int .u64 (n + 1)] w (Ret (.int .i64 n) w) := by
  have hu := U_nameW h0 (by omega : n < 4611686018427387904)
  have h := node_PT (nameW n) (nameW_ne0 h0 (by omega)) (by omega) w
  rw [hu, node_name h0 (by omega)] at h
  exact h
def lenV : Value → Nat
  | .slice _ n _ => n
  | _ => 0
theorem lenV_slice (a : Option Addr) (n c : Nat) : lenV (.slice a n c) = n := rfl
theorem newy (w : World) (x : Value) (t : TypeId) (b : Nat) (hb : b = w.heap.size) : (w.alloc (.cells #[x] t)).cell? ⟨b, 0, none⟩ = some x := by
  subst hb
  exact cell_at (hp_at w _ _ rfl) rfl
/-- In the midst of List. -/
structure LstIn (p : Pl) (lo hi : Nat) (L : Lay) (M : MS) (l : List Int) (w : World) (l1 l2 : List Int) (vl : Value) (x : Int) (wr : World) : Prop where
  e : l = l1 ++ l2
  r : IR (w.heap.size + 1) vl l1 wr
  x : x = U (nmL l2)
  ex : Ext w wr
  pb : PBox w.heap.size p wr
  m : MemIn lo hi L M wr
def LstRel (p : Pl) (lo hi : Nat) (L : Lay) (M : MS) (l : List Int) (w : World) (vl vw : Value) (wr : World) : Prop := ∃ l1 l2 x, vw = .int .u64 x ∧ LstIn p lo hi L M l w l1 l2 vl x wr
set_option maxRecDepth 8000 in
set_option maxHeartbeats 2000000 in
theorem flist_any {lo hi : Nat} {L : Lay} {M : MS} {w : World} (p : Pl) (hp : p.ok) (l : List Int) (T : Nat) (hL : FL p M l T) (hM : MemIn lo hi L M w) :
    Calls Tryz.prog 22 #[plV p, .pointer (some ⟨L.bm, 0, none⟩), .int .i64 0] w (fun e w' => ∃ v, e = .returned v ∧ IR w.heap.size v l w' ∧ Ext w w') := by
  have hz := Lib.hid (head_zero hp)
  have hsp := size_pos hp
  have hn1 : p.n ≤ 1048576 := hp.1.2
  have hn0 : 1 ≤ p.n := hp.1.1
  have hhi := hM.top
  have hle : (l.length : Int) ≤ p.n := nodup_le (by omega) hL.nd hL.rg
  have hsz : M.sz 0 = p.sizeF.toNat := hL.mg.s
  have hM1 : M.n = 1 := hL.mg.n
  have hr0 : (0 : Int) < M.n := by rw [hM1]; omega
  have hr1 : (0 : Int) < M.sz (0 : Int).toNat := by show (0 : Int) < M.sz 0; rw [hsz]; omega
  have HL := Lib.hid hL
  have HM := Lib.hid hM
  have HP := Lib.hid hp
  clear hL hM hp
  go_enter Tryz.func22, Tryz.ntmps22
  go_wp2
  have hE : Ext w (w.alloc (.cells #[.int .i64 p.n, .int .i64 p.t, .int .i64 p.r, .int .i64 p.d, .int .i64 p.b, .int .i64 p.g] 23)) := ext_alloc _ (ext_refl w)
  have hb0 : PBox w.heap.size p (w.alloc (.cells #[.int .i64 p.n, .int .i64 p.t, .int .i64 p.r, .int .i64 p.d, .int .i64 p.b, .int .i64 p.g] 23)) := heap_at _ _ _ rfl
  generalize w.alloc (.cells #[.int .i64 p.n, .int .i64 p.t, .int .i64 p.r, .int .i64 p.d, .int .i64 p.b, .int .i64 p.g] 23) = W at hE hb0 ⊢
  have ⟨c0, c1, c2, c3, c4, c5, lt⟩ := hb0.plc
  have HMW := Lib.hid (HM.out.ext hE)
  have HE := Lib.hid hE
  have HB0 := Lib.hid hb0
  clear hE hb0
  refine wp_region_over (by kernel_rfl) (by kernel_rfl) ?_
  repeat (go_big_quiet_step (first | (go_at_call 58; exact over_call (nodeField_any _)) | (go_at_call 60; exact over_call (head_is p _ 0 hz)) | (go_at_call 23; exact over_call (peek_int (HMW.out.over _) 0 0 (U (M.wd 0 0)) (by omega) hr0 (by omega) hr1 (Lib.hid rfl))) | (go_at_call 59; exact over_call (getNd_any (M.wd 0 0) _))))
  refine wpQuiet_nil ?_
  intro _ hw'
  obtain ⟨s1, hw''⟩ := hw'
  subst hw''
  clear c0 c1 c2 c3 c4 c5 lt
  have HI : Hid (LstIn p lo hi L M l w [] l (.slice none 0 0) (U (ndW (M.wd 0 0))) (over W s1)) :=
    Lib.hid ⟨rfl, IR.nil _ _, by rw [HL.out.hd], ext_over s1 HE.out, HB0.out.ext (over_below W s1), HMW.out.over s1⟩
  clear HMW HE HB0
  generalize over W s1 = w1 at HI ⊢
  go_wp2
  go_loopw [7, 8] (fun vl vw wr => LstRel p lo hi L M l w vl vw wr) (fun vl _ _ => l.length - lenV vl)
  case atStart => exact ⟨[], l, _, rfl, HI.out⟩
  case round =>
    obtain ⟨l1, l2, x, rfl, hR⟩ := hrel
    have HR := Lib.hid hR
    obtain ⟨va, vc, rfl⟩ := hR.r.slice
    have ⟨c0, c1, c2, c3, c4, c5, lt⟩ := hR.pb.plc
    have he := hR.e
    have hx := hR.x
    have hsx := hR.ex.size
    clear hR HI
    cases l2 with
    | nil =>
      have hx0 : x = 0 := by rw [hx]; exact U_0
      subst hx0
      clear hx
      go_wp2_with (go_at_call 61; refine (named_no p _).mono ?_; rintro e w2 ⟨rfl, hx2⟩; have HX2 := Lib.hid hx2; clear hx2)
      go_ret
      rw [List.append_nil] at he
      subst he
      exact ⟨_, rfl, (HR.out.r.ext HX2.out).mono (Nat.le_succ _), ext_trans HR.out.ex HX2.out⟩
    | cons n l3 =>
      have hlen : l.length = l1.length + (l3.length + 1) := by rw [he]; simp
      have hn : InR p n := HL.out.rg n (by rw [he]; simp)
      have hxn : x = n + 1 := by rw [hx]; exact U_nameW hn.1 (by have := hn.2; omega)
      subst hxn
      have hnx := nx_in HP.out hn
      have q1 : decide ((l1.length : Int) < p.n) = true := by simp; omega
      have hch : M.wd 0 (nxN p n) = nmL l3 := Ch.at (l1 := l1) (by rw [← he]; exact HL.out.ch)
      have hpk : Hid (U (M.wd (0 : Int).toNat (p.nxF n).toNat) = U (nmL l3)) := Lib.hid (by rw [← hch]; rfl)
      have hr2 : p.nxF n < M.sz (0 : Int).toNat := by show p.nxF n < M.sz 0; rw [hsz]; omega
      have HE := Lib.hid he
      have hl1 : l1.length ≤ 2000000 := by omega
      have hnl := hn.1
      have hnu := hn.2
      clear he hx hch
      go_wp2_with (first
        | (go_at_call 61; refine (named_yes p n hn.1 hn.2 hn1 _).mono ?_; rintro e w2 ⟨rfl, hx2⟩; have c0 := ext_cell hx2 c0; have lt := cell_lt c0; have HX2 := Lib.hid hx2; clear hx2)
        | (go_at_call 62; refine (node_int n hn.1 (by omega) _).mono ?_; rintro e w3 ⟨rfl, hx3⟩; have HX3 := Lib.hid (ext_trans HX2.out hx3); clear hx3)
        | (at_builtin; refine wpList_irow rfl (.tmp 29) (.tmp 31) rfl (w.heap.size + 1) _ l1 rfl (HR.out.r.ext (ext_alloc _ HX3.out)) ⟨w3.heap.size, 0, none⟩ n rfl (newy _ _ _ _ rfl) hl1 (by have := heap_lt HR.out.pb; have := HX3.out.size; simp; omega) ?_; intro v4 w4 hv4 hg4 hn4; refine Hid.out ?_))
      refine Lib.hid ?_
      have hI3 := HR.out.r.ext (ext_alloc (.cells #[.int .i64 n] 3) HX3.out)
      have hX4 := grown_ext (ext_trans HR.out.ex (ext_alloc (.cells #[.int .i64 n] 3) HX3.out)) hI3 hg4 (Nat.le_succ _)
      have hlt4 := heap_lt (HR.out.pb.ext (ext_alloc (.cells #[.int .i64 n] 3) HX3.out))
      have hP4 : PBox w.heap.size p w4 := (grown_at hI3 hg4 hlt4 (Nat.lt_succ_self _)).trans (HR.out.pb.ext (ext_alloc (.cells #[.int .i64 n] 3) HX3.out))
      have hM4 : MemIn lo hi L M w4 := (HR.out.m.ext (ext_alloc (.cells #[.int .i64 n] 3) HX3.out)).keep hg4.size fun k _ hk => grown_at hI3 hg4 (by omega) (by omega)
      clear c1 c2 c3 c4 c5
      have ⟨c0, c1, c2, c3, c4, c5, lt⟩ := hP4.plc
      have HV4 := Lib.hid hv4
      have HX4 := Lib.hid hX4
      have HP4 := Lib.hid hP4
      have HM4 := Lib.hid hM4
      obtain ⟨v4a, v4c, rfl⟩ := hv4.slice
      clear hv4 hg4 hn4 hI3 hX4 hP4 hM4
      go_wp2_with (first
        | (go_at_call 63; refine (next_any p n _).mono ?_; rintro e w5 ⟨rfl, hx5⟩; have HX5 := Lib.hid hx5; clear hx5)
        | (go_at_call 23; refine (peek_int (HM4.out.ext HX5.out) 0 (p.nxF n) _ (by omega) hr0 (by omega) hr2 hpk).mono ?_; rintro e w6 ⟨rfl, hx6⟩; have HX6 := Lib.hid (ext_trans HX5.out hx6); clear hx6))
      refine ⟨⟨l1 ++ [n], l3, _, rfl, ?_⟩, ?_⟩
      · exact ⟨by rw [HE.out]; simp, by simpa using HV4.out.ext HX6.out, rfl, ext_trans HX4.out HX6.out, HP4.out.ext HX6.out, HM4.out.ext HX6.out⟩
      · simp [lenV]
        omega
end Go.Proofs.YtlapcocljjgjlaaGreat
