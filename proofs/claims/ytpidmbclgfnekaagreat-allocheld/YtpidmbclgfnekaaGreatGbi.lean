/-
  Rows of ints that a call has made itself, at whatever place of their block: they may be cut at both ends, and grow. No conditions but those of each theorem.
-/
import Derived.Test.YtpidmbclgfnekaaGreatGbh
import Derived.ArgAppend
import Derived.OwnWalk
namespace Go.Proofs.YtpidmbclgfnekaaGreat
open Go Go.RowKit

/-- v is a row of the ints l, nil or in a block of its own, from base on. -/
def IR (base : Nat) (v : Value) (l : List Int) (w : World) : Prop :=
  (v = .slice none 0 0 ∧ l = []) ∨ ∃ g off cap cur, v = .slice (some ⟨g, off, none⟩) l.length cap ∧ base ≤ g ∧ w.heap[g]? = some (.cells cur 3 (0, 0)) ∧ l.length ≤ cap ∧ off + cap ≤ cur.size ∧ ∀ i, i < l.length → cur[off + i]? = some (.int .i64 (iN l i))
theorem IR.nil (base : Nat) (w : World) : IR base (.slice none 0 0) [] w := .inl ⟨rfl, rfl⟩
theorem IR.slice {base : Nat} {v : Value} {l : List Int} {w : World} (h : IR base v l w) : ∃ a cap, v = .slice a l.length cap := by
  rcases h with ⟨rfl, rfl⟩ | ⟨g, off, cap, cur, rfl, _⟩
  · exact ⟨none, 0, rfl⟩
  · exact ⟨_, cap, rfl⟩
theorem IR.is {base : Nat} {v : Value} {l : List Int} {w : World} (h : IR base v l w) : Is w v l := by
  rcases h with ⟨rfl, rfl⟩ | ⟨g, off, cap, cur, rfl, hb, hh, hc, hs, hr⟩
  · exact ⟨none, 0, rfl, Nat.le_refl _, fun h => absurd h (Nat.not_lt_zero _)⟩
  · exact ⟨_, cap, rfl, hc, fun _ => ⟨g, off, rfl, hp_lt hh, fun i hi => cell_at hh (hr i hi)⟩⟩
theorem IR.keep {base : Nat} {v : Value} {l : List Int} {w w' : World} (h : IR base v l w) (hk : ∀ g, v.ownBlock = some g → w'.heap[g]? = w.heap[g]?) : IR base v l w' := by
  rcases h with ⟨rfl, rfl⟩ | ⟨g, off, cap, cur, rfl, hb, hh, hr⟩
  · exact .inl ⟨rfl, rfl⟩
  · exact .inr ⟨g, off, cap, cur, rfl, hb, (hk g rfl).trans hh, hr⟩
theorem IR.own {base : Nat} {v : Value} {l : List Int} {w : World} (h : IR base v l w) {g : Nat} (hg : v.ownBlock = some g) : base ≤ g ∧ ∃ cur, w.heap[g]? = some (.cells cur 3 (0, 0)) := by
  rcases h with ⟨rfl, rfl⟩ | ⟨g', off, cap, cur, rfl, hb, hh, hr⟩
  · cases hg
  · cases hg
    exact ⟨hb, cur, hh⟩
theorem IR.ext {base : Nat} {v : Value} {l : List Int} {w w' : World} (h : IR base v l w) (hx : Ext w w') : IR base v l w' :=
  h.keep fun g hg => by obtain ⟨_, cur, hh⟩ := h.own hg; exact hx.block g (hp_lt hh)
theorem IR.fr {base lo hi : Nat} {v : Value} {l : List Int} {w w' : World} (h : IR base v l w) (hx : Fr lo hi w w') (hb : hi ≤ base) : IR base v l w' :=
  h.keep fun g hg => by obtain ⟨h1, cur, hh⟩ := h.own hg; exact hx.block g (hp_lt hh) (.inr (by omega))
theorem IR.mono {base base' : Nat} {v : Value} {l : List Int} {w : World} (h : IR base v l w) (hb : base' ≤ base) : IR base' v l w := by
  rcases h with ⟨rfl, rfl⟩ | ⟨g, off, cap, cur, rfl, h1, hh, hr⟩
  · exact .inl ⟨rfl, rfl⟩
  · exact .inr ⟨g, off, cap, cur, rfl, by omega, hh, hr⟩
theorem ir_of_own {base : Nat} {v : Value} {l : List Int} {w : World} (h : w.ownsRow base 3 1 v l.length (l.map fun x => Value.int .i64 x)) : IR base v l w := by
  rcases h.2 with ⟨rfl, h2⟩ | ⟨g, cap, cur, rfl, hg, hh, hc, hm, hs, ht⟩
  · exact .inl ⟨rfl, List.eq_nil_of_length_eq_zero h2⟩
  · refine .inr ⟨g, 0, cap, cur, rfl, hg, hh, hc, by omega, fun i hi => ?_⟩
    have h3 : (cur.toList.take (l.length * 1))[i]? = (l.map fun x => Value.int .i64 x)[i]? := by rw [ht]
    rw [List.getElem?_take, if_pos (by omega), Array.getElem?_toList, List.getElem?_map, List.getElem?_eq_getElem hi] at h3
    rw [Nat.zero_add, h3]
    simp [iN, List.getD_eq_getElem?_getD, hi]
theorem iN_snoc_lt (l : List Int) (y : Int) (i : Nat) (h : i < l.length) : iN (l ++ [y]) i = iN l i := by
  simp [iN, List.getD_eq_getElem?_getD, List.getElem?_append_left h]
theorem iN_snoc_eq (l : List Int) (y : Int) : iN (l ++ [y]) l.length = y := by
  simp [iN, List.getD_eq_getElem?_getD]
theorem Tryz.infoI64 : (Tryz.prog.info? 3).map (fun i => (i.zero, i.size, i.bytes)) = some (some (.int .i64 0), 1, 8) := by kernel_rfl
/-- One more at the end. -/
theorem wpList_irow {w : World} {ops : Array Oper} {rest : List Oper} {o : Oper} {a : Act} {Q : Exit → Act → World → Prop} (hgd : o.guard = none) (s x : Operand)
    (ho : o.op = .call { callee := .builtin .append, args := #[s, x], argTypes := #[29, 29] }) (base : Nat) (v : Value) (l : List Int) (hs : a.eval s = v) (hI : IR base v l w)
    (ad : Addr) (y : Int) (hx : a.eval x = .slice (some ad) 1 1) (hc : w.cell? ad = some (.int .i64 y)) (hl : l.length ≤ 2000000) (hb : base ≤ w.heap.size)
    (h : ∀ v' w', IR base v' (l ++ [y]) w' → w.grownBy w' v.ownBlock → (v'.ownBlock = v.ownBlock ∨ ∃ g, v'.ownBlock = some g ∧ w.heap.size ≤ g) → wpList Tryz.prog ops Q rest (a.put o.dst v') w') : wpList Tryz.prog ops Q (o :: rest) a w := by
  obtain ⟨iU, hiU, hy0, hy1, hy2⟩ : ∃ i, Tryz.prog.info? 3 = some i ∧ i.zero = some (.int .i64 0) ∧ i.size = 1 ∧ i.bytes = 8 := by
    have h := Tryz.infoI64
    cases hi : Tryz.prog.info? 3 with
    | none => rw [hi] at h; cases h
    | some i =>
      rw [hi] at h
      simp at h
      exact ⟨i, rfl, h.1, h.2.1, h.2.2⟩
  have hnews : ∀ j u, ([.int .i64 y] : List Value)[j]? = some u → w.cell? (ad.add j) = some u := by
    intro j u hj
    match j, hj with
    | 0, hj =>
      simp at hj
      subst hj
      have := spot_none' hc
      rw [this, add_at']
      rw [this] at hc
      exact hc
  have h1 : ∀ u ∈ ([.int .i64 y] : List Value), u.oneCell' = true := by
    intro u hu
    simp at hu
    subst hu
    rfl
  have hmap : (l.map fun x => Value.int .i64 x) ++ [.int .i64 y] = (l ++ [y]).map fun x => Value.int .i64 x := by simp
  rcases hI with ⟨rfl, rfl⟩ | ⟨g, off, cap, cur, rfl, hbg, hh, hlc, hoc, hr⟩
  · refine wpList_append_grows w hgd s x 29 ho 3 iU (.int .i64 0) 1 8 Tryz.underlying29 hiU hy0 hy1 hy2 rfl (by decide) none 0 0 [] hs (fun _ => ⟨rfl, rfl⟩) rfl (fun b hb => by cases hb) ad 1 1 [.int .i64 y] hx rfl hnews h1 (by omega) (by unfold maxLen; omega) (by omega) ?_
    intro v' w' hown hg
    refine h v' w' ((ir_of_own (l := [y]) hown).mono hb) hg ?_
    cases ho' : v'.ownBlock with
    | none => exact .inl rfl
    | some g => exact .inr ⟨g, rfl, (hown.lt g ho').1⟩
  · have holds : ∀ j u, (l.map fun x => Value.int .i64 x)[j]? = some u → w.cell? ⟨g, off + j, none⟩ = some u := by
      intro j u hj
      have hj' : j < l.length := by
        have := (List.getElem?_eq_some_iff.1 hj).1
        simpa using this
      rw [List.getElem?_map, List.getElem?_eq_getElem hj'] at hj
      simp at hj
      refine cell_at hh ((hr j hj').trans ?_)
      rw [← hj]
      simp [iN, List.getD_eq_getElem?_getD, hj']
    refine wpList_append_arg w hgd s x 29 ho 3 iU (.int .i64 0) 1 8 Tryz.underlying29 hiU hy0 hy1 hy2 rfl (by decide) g off l.length cap _ hs (by simp) holds ad 1 1 [.int .i64 y] hx rfl hnews h1 ?_ (by unfold maxLen; omega) (by omega) ?_ ?_
    · intro hroom j hj
      have hlt : off + l.length * 1 + j < cur.size := by simp at hj; omega
      refine ⟨?_, free_at hh⟩
      rw [cell_at hh (Array.getElem?_eq_getElem hlt)]
      rfl
    · intro hroom
      have e : w.setCells g (off + l.length * 1) [.int .i64 y] = w.setCell ⟨g, off + l.length, none⟩ (.int .i64 y) := by simp [World.setCells]
      rw [e]
      have hh' := set_same (o := off + l.length) (.int .i64 y) hh
      refine h _ _ (.inr ⟨g, off, cap, _, ?_, hbg, hh', ?_, ?_, fun i hi => ?_⟩) ⟨rfl, rfl, rfl, by rw [set_size]; exact Nat.le_refl _, fun k _ hk => set_other _ (fun e => hk (by rw [e]; rfl))⟩ (.inl rfl)
      · simp
      · simp; omega
      · simpa using hoc
      · simp only [List.length_append, List.length_cons, List.length_nil] at hi
        by_cases hi' : i < l.length
        · rw [iN_snoc_lt l y i hi', Array.getElem?_setIfInBounds_ne (by omega)]
          exact hr i hi'
        · obtain rfl : i = l.length := by omega
          rw [iN_snoc_eq, Array.getElem?_setIfInBounds_self_of_lt (by omega)]
    · intro hfull v' w' hown hg
      refine h v' w' ((ir_of_own (l := l ++ [y]) (by rw [← hmap]; simpa using hown)).mono hb) ⟨hg.os, hg.tape, hg.output, hg.size, fun k hk _ => hg.block k hk (by simp)⟩ ?_
      cases ho' : v'.ownBlock with
      | none => 
        exfalso
        rcases hown.2 with ⟨_, h2⟩ | ⟨g', cap', cur', e', _⟩
        · omega
        · rw [e'] at ho'
          cases ho'
      | some g' => exact .inr ⟨g', rfl, (hown.lt g' ho').1⟩
/-- Without its last one; without its first one. -/
theorem IR.init {base g off n cap : Nat} {l : List Int} {y : Int} {w : World} (h : IR base (.slice (some ⟨g, off, none⟩) n cap) (l ++ [y]) w) : IR base (.slice (some ⟨g, off, none⟩) l.length cap) l w := by
  rcases h with ⟨h, _⟩ | ⟨g', off', cap', cur, e, hb, hh, hc, hs, hr⟩
  · cases h
  · simp at e
    obtain ⟨⟨rfl, rfl⟩, _, rfl⟩ := e
    refine .inr ⟨_, _, _, cur, rfl, hb, hh, by simp at hc; omega, hs, fun i hi => ?_⟩
    rw [hr i (by simp; omega), iN_snoc_lt l y i hi]
theorem IR.tail {base g off n cap : Nat} {l : List Int} {y : Int} {w : World} (h : IR base (.slice (some ⟨g, off, none⟩) n cap) (y :: l) w) (off' : Nat) (ho : off' = off + 1 ∨ (cap = 1 ∧ off' = off)) : IR base (.slice (some ⟨g, off', none⟩) l.length (cap - 1)) l w := by
  rcases h with ⟨h, _⟩ | ⟨g', off1, cap', cur, e, hb, hh, hc, hs, hr⟩
  · cases h
  · simp at e
    obtain ⟨⟨rfl, rfl⟩, _, rfl⟩ := e
    simp only [List.length_cons] at hc hr
    refine .inr ⟨_, off', _, cur, rfl, hb, hh, by omega, by omega, fun i hi => ?_⟩
    have := hr (i + 1) (by omega)
    rcases ho with rfl | ⟨rfl, rfl⟩
    · rw [show off + 1 + i = off + (i + 1) by omega, this]
      simp [iN]
    · omega
theorem IR.some {base : Nat} {v : Value} {l : List Int} {w : World} (h : IR base v l w) (hl : 0 < l.length) : ∃ g off cap, v = .slice (some ⟨g, off, none⟩) l.length cap ∧ g < w.heap.size ∧ base ≤ g ∧ l.length ≤ cap ∧ ∀ i, i < l.length → w.cell? ⟨g, off + i, none⟩ = some (.int .i64 (iN l i)) := by
  rcases h with ⟨rfl, rfl⟩ | ⟨g, off, cap, cur, rfl, hb, hh, hc, hs, hr⟩
  · exact absurd hl (Nat.not_lt_zero _)
  · exact ⟨g, off, cap, rfl, hp_lt hh, hb, hc, fun i hi => cell_at hh (hr i hi)⟩
/-- The frames that an append keeps. -/
theorem grown_ext {w0 w w' : World} {v : Value} {base : Nat} {l : List Int} (h : Ext w0 w) (hI : IR base v l w) (hg : w.grownBy w' v.ownBlock) (hb : w0.heap.size ≤ base) : Ext w0 w' :=
  ⟨hg.os.trans h.os, hg.tape.trans h.tape, hg.output.trans h.output, Nat.le_trans h.size hg.size, fun k hk => (hg.block k (Nat.lt_of_lt_of_le hk h.size) (fun e => by have := (hI.own e.symm).1; omega)).trans (h.block k hk)⟩
theorem grown_at {w w' : World} {v : Value} {base k : Nat} {l : List Int} (hI : IR base v l w) (hg : w.grownBy w' v.ownBlock) (hk : k < w.heap.size) (hb : k < base) : w'.heap[k]? = w.heap[k]? :=
  hg.block k hk (fun e => by have := (hI.own e.symm).1; omega)
end Go.Proofs.YtpidmbclgfnekaaGreat

/-
  What the call of List comes to. Conditions: a formed plan, whose list stands in the memory.
-/
namespace Go.Proofs.YtpidmbclgfnekaaGreat
open Go Go.RowKit

theorem wrap64u (x : Int) (h0 : 0 ≤ x) (h1 : x < 18446744073709551616) : IntKind.u64.wrap x = x := by
  rw [IntKind.wrap_u64]
  omega
theorem Ch.at {p : Pl} {M : MS} {n : Int} {l3 : List Int} : ∀ {l1 : List Int}, Ch p M (l1 ++ n :: l3) → M.wd 0 (nxN p n) = nmL l3
  | [], h => h.1
  | _ :: l1, h => Ch.at (l1 := l1) h.2
set_option maxHeartbeats 1000000 in
theorem named_no (p : Pl) (w : World) : Calls Tryz.prog 69 #[plV p, .int .u64 0] w (Ret (.bool false) w) := by
  go_enter Tryz.func69, Tryz.ntmps69
  go_wp2
  go_ret
  exact Ret.mk (by repeat (first | exact ext_refl _ | apply ext_alloc))
set_option maxHeartbeats 1000000 in
theorem named_yes (p : Pl) (n : Int) (h0 : 0 ≤ n) (h1 : n < p.n) (h2 : p.n ≤ 1048576) (w : World) : Calls Tryz.prog 69 #[plV p, .int .u64 (n + 1)] w (Ret (.bool true) w) := by
  have e0 : ((n + 1 : Int) == 0) = false := by simp; omega
  have e0' : ¬ n + 1 = 0 := by omega
  have e1 : IntKind.u64.wrap p.n = p.n := wrap64u p.n (by omega) (by omega)
  have e2 : decide (n + 1 ≤ p.n) = true := by simp; omega
  go_enter Tryz.func69, Tryz.ntmps69
  go_wp2
  go_ret
  exact Ret.bool (y := (n + 1 != 0)) (by simp; omega) (by repeat (first | exact ext_refl _ | apply ext_alloc))
set_option maxHeartbeats 1000000 in
theorem node_int (n : Int) (h0 : 0 ≤ n) (h1 : n < 2097152) (w : World) : Calls Tryz.prog 70 #[.int .u64 (n + 1)] w (Ret (.int .i64 n) w) := by
  have hu := U_nameW h0 (by omega : n < 4611686018427387904)
  have h := node_PT (nameW n) (nameW_ne0 h0 (by omega)) (by omega) w
  rw [hu, node_name h0 (by omega)] at h
  exact h
def lenV : Value → Nat
  | .slice _ n _ => n
  | _ => 0
theorem lenV_slice (a : Option Addr) (n c : Nat) : lenV (.slice a n c) = n := rfl
theorem newy (w : World) (x : Value) (t : TypeId) (b : Nat) (hb : b = w.heap.size) : (w.alloc (.cells #[x] t)).cell? ⟨b, 0, none⟩ = some x := by
  subst hb
  exact cell_at (hp_at w _ _ rfl) rfl
/-- In the midst of List. -/
structure LstIn (p : Pl) (lo hi : Nat) (L : Lay) (M : MS) (l : List Int) (w : World) (l1 l2 : List Int) (vl : Value) (x : Int) (wr : World) : Prop where
  e : l = l1 ++ l2
  r : IR (w.heap.size + 1) vl l1 wr
  x : x = U (nmL l2)
  ex : Ext w wr
  pb : PBox w.heap.size p wr
  m : MemIn lo hi L M wr
def LstRel (p : Pl) (lo hi : Nat) (L : Lay) (M : MS) (l : List Int) (w : World) (vl vw : Value) (wr : World) : Prop := ∃ l1 l2 x, vw = .int .u64 x ∧ LstIn p lo hi L M l w l1 l2 vl x wr
set_option maxRecDepth 8000 in
set_option maxHeartbeats 2000000 in
theorem flist_any {lo hi : Nat} {L : Lay} {M : MS} {w : World} (p : Pl) (hp : p.ok) (l : List Int) (T : Nat) (hL : FL p M l T) (hM : MemIn lo hi L M w) :
    Calls Tryz.prog 23 #[plV p, .pointer (some ⟨L.bm, 0, none⟩), .int .i64 0] w (fun e w' => ∃ v, e = .returned v ∧ IR w.heap.size v l w' ∧ Ext w w') := by
  have hz := Lib.hid (head_zero hp)
  have hsp := size_pos hp
  have hn1 : p.n ≤ 1048576 := hp.1.2
  have hn0 : 1 ≤ p.n := hp.1.1
  have hhi := hM.top
  have hle : (l.length : Int) ≤ p.n := nodup_le (by omega) hL.nd hL.rg
  have hsz : M.sz 0 = p.sizeF.toNat := hL.mg.s
  have hM1 : M.n = 1 := hL.mg.n
  have hr0 : (0 : Int) < M.n := by rw [hM1]; omega
  have hr1 : (0 : Int) < M.sz (0 : Int).toNat := by show (0 : Int) < M.sz 0; rw [hsz]; omega
  have HL := Lib.hid hL
  have HM := Lib.hid hM
  have HP := Lib.hid hp
  clear hL hM hp
  go_enter Tryz.func23, Tryz.ntmps23
  go_wp2
  have hE : Ext w (w.alloc (.cells #[.int .i64 p.n, .int .i64 p.t, .int .i64 p.r, .int .i64 p.d, .int .i64 p.b, .int .i64 p.g] 23)) := ext_alloc _ (ext_refl w)
  have hb0 : PBox w.heap.size p (w.alloc (.cells #[.int .i64 p.n, .int .i64 p.t, .int .i64 p.r, .int .i64 p.d, .int .i64 p.b, .int .i64 p.g] 23)) := heap_at _ _ _ rfl
  generalize w.alloc (.cells #[.int .i64 p.n, .int .i64 p.t, .int .i64 p.r, .int .i64 p.d, .int .i64 p.b, .int .i64 p.g] 23) = W at hE hb0 ⊢
  have ⟨c0, c1, c2, c3, c4, c5, lt⟩ := hb0.plc
  have HMW := Lib.hid (HM.out.ext hE)
  have HE := Lib.hid hE
  have HB0 := Lib.hid hb0
  clear hE hb0
  refine wp_region_over (by kernel_rfl) (by kernel_rfl) ?_
  repeat (go_big_quiet_step (first | (go_at_call 66; exact over_call (nodeField_any _)) | (go_at_call 68; exact over_call (head_is p _ 0 hz)) | (go_at_call 16; exact over_call (peek_int (HMW.out.over _) 0 0 (U (M.wd 0 0)) (by omega) hr0 (by omega) hr1 (Lib.hid rfl))) | (go_at_call 67; exact over_call (getNd_any (M.wd 0 0) _))))
  refine wpQuiet_nil ?_
  intro _ hw'
  obtain ⟨s1, hw''⟩ := hw'
  subst hw''
  clear c0 c1 c2 c3 c4 c5 lt
  have HI : Hid (LstIn p lo hi L M l w [] l (.slice none 0 0) (U (ndW (M.wd 0 0))) (over W s1)) :=
    Lib.hid ⟨rfl, IR.nil _ _, by rw [HL.out.hd], ext_over s1 HE.out, HB0.out.ext (over_below W s1), HMW.out.over s1⟩
  clear HMW HE HB0
  generalize over W s1 = w1 at HI ⊢
  go_wp2
  go_loopw [7, 8] (fun vl vw wr => LstRel p lo hi L M l w vl vw wr) (fun vl _ _ => l.length - lenV vl)
  case atStart => exact ⟨[], l, _, rfl, HI.out⟩
  case round =>
    obtain ⟨l1, l2, x, rfl, hR⟩ := hrel
    have HR := Lib.hid hR
    obtain ⟨va, vc, rfl⟩ := hR.r.slice
    have ⟨c0, c1, c2, c3, c4, c5, lt⟩ := hR.pb.plc
    have he := hR.e
    have hx := hR.x
    have hsx := hR.ex.size
    clear hR HI
    cases l2 with
    | nil =>
      have hx0 : x = 0 := by rw [hx]; exact U_0
      subst hx0
      clear hx
      go_wp2_with (go_at_call 69; refine (named_no p _).mono ?_; rintro e w2 ⟨rfl, hx2⟩; have HX2 := Lib.hid hx2; clear hx2)
      go_ret
      rw [List.append_nil] at he
      subst he
      exact ⟨_, rfl, (HR.out.r.ext HX2.out).mono (Nat.le_succ _), ext_trans HR.out.ex HX2.out⟩
    | cons n l3 =>
      have hlen : l.length = l1.length + (l3.length + 1) := by rw [he]; simp
      have hn : InR p n := HL.out.rg n (by rw [he]; simp)
      have hxn : x = n + 1 := by rw [hx]; exact U_nameW hn.1 (by have := hn.2; omega)
      subst hxn
      have hnx := nx_in HP.out hn
      have q1 : decide ((l1.length : Int) < p.n) = true := by simp; omega
      have hch : M.wd 0 (nxN p n) = nmL l3 := Ch.at (l1 := l1) (by rw [← he]; exact HL.out.ch)
      have hpk : Hid (U (M.wd (0 : Int).toNat (p.nxF n).toNat) = U (nmL l3)) := Lib.hid (by rw [← hch]; rfl)
      have hr2 : p.nxF n < M.sz (0 : Int).toNat := by show p.nxF n < M.sz 0; rw [hsz]; omega
      have HE := Lib.hid he
      have hl1 : l1.length ≤ 2000000 := by omega
      have hnl := hn.1
      have hnu := hn.2
      clear he hx hch
      go_wp2_with (first
        | (go_at_call 69; refine (named_yes p n hn.1 hn.2 hn1 _).mono ?_; rintro e w2 ⟨rfl, hx2⟩; have c0 := ext_cell hx2 c0; have lt := cell_lt c0; have HX2 := Lib.hid hx2; clear hx2)
        | (go_at_call 70; refine (node_int n hn.1 (by omega) _).mono ?_; rintro e w3 ⟨rfl, hx3⟩; have HX3 := Lib.hid (ext_trans HX2.out hx3); clear hx3)
        | (at_builtin; refine wpList_irow rfl (.tmp 29) (.tmp 31) rfl (w.heap.size + 1) _ l1 rfl (HR.out.r.ext (ext_alloc _ HX3.out)) ⟨w3.heap.size, 0, none⟩ n rfl (newy _ _ _ _ rfl) hl1 (by have := heap_lt HR.out.pb; have := HX3.out.size; simp; omega) ?_; intro v4 w4 hv4 hg4 hn4; refine Hid.out ?_))
      refine Lib.hid ?_
      have hI3 := HR.out.r.ext (ext_alloc (.cells #[.int .i64 n] 3) HX3.out)
      have hX4 := grown_ext (ext_trans HR.out.ex (ext_alloc (.cells #[.int .i64 n] 3) HX3.out)) hI3 hg4 (Nat.le_succ _)
      have hlt4 := heap_lt (HR.out.pb.ext (ext_alloc (.cells #[.int .i64 n] 3) HX3.out))
      have hP4 : PBox w.heap.size p w4 := (grown_at hI3 hg4 hlt4 (Nat.lt_succ_self _)).trans (HR.out.pb.ext (ext_alloc (.cells #[.int .i64 n] 3) HX3.out))
      have hM4 : MemIn lo hi L M w4 := (HR.out.m.ext (ext_alloc (.cells #[.int .i64 n] 3) HX3.out)).keep hg4.size fun k _ hk => grown_at hI3 hg4 (by omega) (by omega)
      clear c1 c2 c3 c4 c5
      have ⟨c0, c1, c2, c3, c4, c5, lt⟩ := hP4.plc
      have HV4 := Lib.hid hv4
      have HX4 := Lib.hid hX4
      have HP4 := Lib.hid hP4
      have HM4 := Lib.hid hM4
      obtain ⟨v4a, v4c, rfl⟩ := hv4.slice
      clear hv4 hg4 hn4 hI3 hX4 hP4 hM4
      go_wp2_with (first
        | (go_at_call 71; refine (next_any p n _).mono ?_; rintro e w5 ⟨rfl, hx5⟩; have HX5 := Lib.hid hx5; clear hx5)
        | (go_at_call 16; refine (peek_int (HM4.out.ext HX5.out) 0 (p.nxF n) _ (by omega) hr0 (by omega) hr2 hpk).mono ?_; rintro e w6 ⟨rfl, hx6⟩; have HX6 := Lib.hid (ext_trans HX5.out hx6); clear hx6))
      refine ⟨⟨l1 ++ [n], l3, _, rfl, ?_⟩, ?_⟩
      · exact ⟨by rw [HE.out]; simp, by simpa using HV4.out.ext HX6.out, rfl, ext_trans HX4.out HX6.out, HP4.out.ext HX6.out, HM4.out.ext HX6.out⟩
      · simp [lenV]
        omega
end Go.Proofs.YtpidmbclgfnekaaGreat

/-
  What the call of Fresh comes to. Conditions: those of each theorem.
-/
namespace Go.Proofs.YtpidmbclgfnekaaGreat
open Go Go.RowKit

set_option maxRecDepth 8000 in
set_option maxHeartbeats 2000000 in
theorem fnx_any (p : Pl) (n : Int) (h0 : 0 ≤ n) (h1 : n < p.n) (h2 : p.n ≤ 1048576) (w : World) : Calls Tryz.prog 140 #[plV p, .int .i64 n] w (Ret (.int .u64 (U (fnxW p n))) w) := by
  have e1 : wrap64 (p.n - 1) = p.n - 1 := by unfold wrap64; omega
  have e2 : wrap64 (n + 1) = n + 1 := by unfold wrap64; omega
  by_cases hn : n = p.n - 1
  · have e3 : fnxW p n = 0#64 := by unfold fnxW; rw [if_pos hn]
    rw [e3, U_0]
    clear e2 e3
    go_enter Tryz.func140, Tryz.ntmps140
    go_wp2
    go_ret
    exact Ret.mk (by repeat (first | exact ext_refl _ | apply ext_alloc))
  · have e3 : fnxW p n = nameW (n + 1) := by unfold fnxW; rw [if_neg hn]
    rw [e3]
    clear e3
    go_enter Tryz.func140, Tryz.ntmps140
    go_wp2_with (go_at_call 139; refine Hid.out ?_)
    refine Lib.hid ?_
    refine (name_any (n + 1) (by omega) (by omega) _).mono ?_
    rintro e w1 ⟨rfl, hx⟩
    have HX := Lib.hid (ext_trans (show Ext w _ by repeat (first | exact ext_refl _ | apply ext_alloc)) hx)
    clear hx
    go_wp2
    go_ret
    exact Ret.mk HX.out
set_option maxRecDepth 8000 in
set_option maxHeartbeats 2000000 in
theorem fresh1_PT (p : Pl) (n : Int) (t : Tr Unit) (B1 B2 : Nat) (w : World) (e2 : wrap64 (n + 1) = n + 1) (hB : PBox B1 p w) (k2 : w.heap[B2]? = some (.cells #[.int .i64 n] 3 (0, 0))) (hN : ∀ W, Calls Tryz.prog 92 #[plV p, .int .i64 (n + 1)] W (RetP (PT kN t) noF W)) :
    Calls Tryz.prog 141 #[.agg #[], .pointer (some ⟨B1, 0, none⟩), .pointer (some ⟨B2, 0, none⟩)] w (RetP (PT kN t) noF w) := by
  have d2 := cell_at (o := 0) k2 rfl
  have l2 := cell_lt d2
  clear k2
  have ⟨c0, c1, c2, c3, c4, c5, lt⟩ := hB.plc
  replace hB := Lib.hid hB
  replace hN := Lib.hid hN
  go_enter Tryz.func141, Tryz.ntmps141
  go_wp2_with (go_at_call 92; refine Hid.out ?_)
  refine Lib.hid ?_
  have hE : Ext w ((w.alloc (.cells #[] 82)).alloc (.cells #[.int .i64 0, .int .i64 0, .int .u64 0, .int .u64 0, .nilFunc, .pointer none] 87)) := by repeat (first | exact ext_refl _ | apply ext_alloc)
  have hb0 : ((w.alloc (.cells #[] 82)).alloc (.cells #[.int .i64 0, .int .i64 0, .int .u64 0, .int .u64 0, .nilFunc, .pointer none] 87)).heap[w.heap.size]? = some (.cells #[] 82) := (Below.heap_alloc _ _ _ (by simp <;> omega)).trans (heap_at _ _ _ (by simp))
  have hb1 : ((w.alloc (.cells #[] 82)).alloc (.cells #[.int .i64 0, .int .i64 0, .int .u64 0, .int .u64 0, .nilFunc, .pointer none] 87)).heap[w.heap.size + 1]? = some (.cells #[.int .i64 0, .int .i64 0, .int .u64 0, .int .u64 0, .nilFunc, .pointer none] 87) := heap_at _ _ _ (by simp)
  have hW : ((w.alloc (.cells #[] 82)).alloc (.cells #[.int .i64 0, .int .i64 0, .int .u64 0, .int .u64 0, .nilFunc, .pointer none] 87)).heap.size = w.heap.size + 1 + 1 := by simp
  generalize ((w.alloc (.cells #[] 82)).alloc (.cells #[.int .i64 0, .int .i64 0, .int .u64 0, .int .u64 0, .nilFunc, .pointer none] 87)) = W at hE hb0 hb1 hW ⊢
  refine (hN.out W).mono ?_
  rintro e w' hR
  obtain ⟨v', F', rfl, hX, hp, hbn, hsub, hnF, hbq⟩ := hR.tail (G := noF) (w.heap.size + 1) hE (heap_lt hb1) (fun h => h) (fun _ h => h.elim)
  have hbx := hbq.trans hb1
  clear hbq hR
  clear hE hb0 hb1 hW c0 c1 c2 c3 c4 c5 lt hN hB d2 l2
  obtain ⟨a2, fn2, rfl, hfn⟩ := shN hp
  have hXX := put6_ext (b := w.heap.size + 1) (.int .i64 a2.op) (.int .i64 a2.at_) (.int .u64 (U a2.a)) (.int .u64 (U a2.b)) (fn2) (.pointer none) hX (by omega)
  have hB := put6_block (.int .i64 a2.op) (.int .i64 a2.at_) (.int .u64 (U a2.a)) (.int .u64 (U a2.b)) (fn2) (.pointer none) hbx
  have hP := hp.agr (Agr.of_put6 (b := w.heap.size + 1) (.int .i64 a2.op) (.int .i64 a2.at_) (.int .u64 (U a2.a)) (.int .u64 (U a2.b)) (fn2) (.pointer none) hnF)
  have hS : (put6 (w.heap.size + 1) (.int .i64 a2.op) (.int .i64 a2.at_) (.int .u64 (U a2.a)) (.int .u64 (U a2.b)) (fn2) (.pointer none) w').heap.size = w'.heap.size := put6_size (.int .i64 a2.op) (.int .i64 a2.at_) (.int .u64 (U a2.a)) (.int .u64 (U a2.b)) (fn2) (.pointer none)
  obtain ⟨c0, c1, c2, c3, c4, c5, cz, ll⟩ := six_of hbx
  rw [put6] at hXX hB hP hS
  have HX := Lib.hid (And.intro hXX (And.intro hB (And.intro hP hS)))
  have HFN := Lib.hid hfn
  have HBN := Lib.hid hbn
  have HSUB := Lib.hid hsub
  clear hXX hB hP hS hX hbx hp hfn hbn hsub hnF
  rcases HFN.out with rfl | ⟨g', caps', rfl⟩
  all_goals
    go_wp2
    clear c0 c1 c2 c3 c4 c5 cz ll
    obtain ⟨hX, hB, hP, hS⟩ := HX.out
    clear HX
    generalize (World.setCell _ (⟨w.heap.size + 1, 5, none⟩ : Addr) _) = Z at hX hB hP hS ⊢
    obtain ⟨c0, c1, c2, c3, c4, c5, cz, ll⟩ := six_of hB
    exact bodyPost_ret (by simp only [results, Tryz.results141, go_sem]; simp [go_sem, c0, c1, c2, c3, c4, c5]) rfl ⟨_, F', rfl, hX, hP, fun j hj => by rw [hS]; exact HBN.out j hj, HSUB.out⟩
theorem fresh1_CT (p : Pl) (n : Int) (t : Tr Unit) (B1 B2 : Nat) (w : World) (e2 : wrap64 (n + 1) = n + 1) (hB : PBox B1 p w) (k2 : w.heap[B2]? = some (.cells #[.int .i64 n] 3 (0, 0))) (hN : ∀ W, Calls Tryz.prog 92 #[plV p, .int .i64 (n + 1)] W (RetP (PT kN t) noF W)) :
    CT kN kN (fun _ => t) (fun j => j = B1 ∨ j = B2) (.func (.func 141) #[] #[.pointer (some ⟨B1, 0, none⟩), .pointer (some ⟨B2, 0, none⟩)]) w :=
  ⟨_, _, rfl, enters_of Tryz.func141 (by kernel_rfl) rfl, fun _ w' ha => (fresh1_PT p n t B1 B2 w' e2 ((ha B1 (.inl rfl)).trans hB) ((ha B2 (.inr rfl)).trans k2) hN).mono fun _ _ h => h.mono fun _ h => h.elim⟩
set_option maxRecDepth 8000 in
set_option maxHeartbeats 2000000 in
theorem fresh_end (p : Pl) (n : Int) (h1 : ¬ n < p.n) (w : World) : Calls Tryz.prog 92 #[plV p, .int .i64 n] w (RetP (PT kN (freshT p 0 n)) noF w) := by
  go_enter Tryz.func92, Tryz.ntmps92
  go_wp2_with (go_at_call 68; refine Hid.out ?_)
  refine Lib.hid ?_
  have hE : Ext w (((w.alloc (.cells #[.int .i64 p.n, .int .i64 p.t, .int .i64 p.r, .int .i64 p.d, .int .i64 p.b, .int .i64 p.g] 23)).alloc (.cells #[.int .i64 n] 3)).alloc (.cells #[.int .i64 0, .int .i64 0, .int .u64 0, .int .u64 0, .nilFunc, .pointer none] 87)) := by repeat (first | exact ext_refl _ | apply ext_alloc)
  have hb0 : (((w.alloc (.cells #[.int .i64 p.n, .int .i64 p.t, .int .i64 p.r, .int .i64 p.d, .int .i64 p.b, .int .i64 p.g] 23)).alloc (.cells #[.int .i64 n] 3)).alloc (.cells #[.int .i64 0, .int .i64 0, .int .u64 0, .int .u64 0, .nilFunc, .pointer none] 87)).heap[w.heap.size]? = some (.cells #[.int .i64 p.n, .int .i64 p.t, .int .i64 p.r, .int .i64 p.d, .int .i64 p.b, .int .i64 p.g] 23) := (Below.heap_alloc _ _ _ (by simp <;> omega)).trans ((Below.heap_alloc _ _ _ (by simp <;> omega)).trans (heap_at _ _ _ (by simp)))
  have hb1 : (((w.alloc (.cells #[.int .i64 p.n, .int .i64 p.t, .int .i64 p.r, .int .i64 p.d, .int .i64 p.b, .int .i64 p.g] 23)).alloc (.cells #[.int .i64 n] 3)).alloc (.cells #[.int .i64 0, .int .i64 0, .int .u64 0, .int .u64 0, .nilFunc, .pointer none] 87)).heap[w.heap.size + 1]? = some (.cells #[.int .i64 n] 3) := (Below.heap_alloc _ _ _ (by simp <;> omega)).trans (heap_at _ _ _ (by simp))
  have hb2 : (((w.alloc (.cells #[.int .i64 p.n, .int .i64 p.t, .int .i64 p.r, .int .i64 p.d, .int .i64 p.b, .int .i64 p.g] 23)).alloc (.cells #[.int .i64 n] 3)).alloc (.cells #[.int .i64 0, .int .i64 0, .int .u64 0, .int .u64 0, .nilFunc, .pointer none] 87)).heap[w.heap.size + 1 + 1]? = some (.cells #[.int .i64 0, .int .i64 0, .int .u64 0, .int .u64 0, .nilFunc, .pointer none] 87) := heap_at _ _ _ (by simp)
  have hW : (((w.alloc (.cells #[.int .i64 p.n, .int .i64 p.t, .int .i64 p.r, .int .i64 p.d, .int .i64 p.b, .int .i64 p.g] 23)).alloc (.cells #[.int .i64 n] 3)).alloc (.cells #[.int .i64 0, .int .i64 0, .int .u64 0, .int .u64 0, .nilFunc, .pointer none] 87)).heap.size = w.heap.size + 1 + 1 + 1 := by simp
  generalize (((w.alloc (.cells #[.int .i64 p.n, .int .i64 p.t, .int .i64 p.r, .int .i64 p.d, .int .i64 p.b, .int .i64 p.g] 23)).alloc (.cells #[.int .i64 n] 3)).alloc (.cells #[.int .i64 0, .int .i64 0, .int .u64 0, .int .u64 0, .nilFunc, .pointer none] 87)) = W at hE hb0 hb1 hb2 hW ⊢
  refine (head_any p W).mono ?_
  rintro e w0 ⟨rfl, hx⟩
  replace hE := ext_trans hE hx
  replace hb2 := (hx.block _ (heap_lt hb2)).trans hb2
  clear hx hW hb0 hb1
  replace hE := Lib.hid hE
  replace hb2 := Lib.hid hb2
  go_wp2_with (go_at_call 66; refine Hid.out ?_)
  refine Lib.hid ?_
  refine (nodeField_any _).mono ?_
  rintro e w1 ⟨rfl, hx⟩
  replace hE := hE.out
  replace hb2 := hb2.out
  replace hE := ext_trans hE hx
  replace hb2 := (hx.block _ (heap_lt hb2)).trans hb2
  clear hx
  replace hE := Lib.hid hE
  replace hb2 := Lib.hid hb2
  go_wp2_with (go_at_call 139; refine Hid.out ?_)
  refine Lib.hid ?_
  refine (name_any 0 (by omega) (by omega) _).mono ?_
  rintro e w2 ⟨rfl, hx⟩
  replace hE := hE.out
  replace hb2 := hb2.out
  replace hE := ext_trans hE hx
  replace hb2 := (hx.block _ (heap_lt hb2)).trans hb2
  clear hx
  replace hE := Lib.hid hE
  replace hb2 := Lib.hid hb2
  go_wp2_with (go_at_call 119; refine Hid.out ?_)
  refine Lib.hid ?_
  refine (put_at 0 21 0 _ 0#64 (nameW 0) _ fmN U_0.symm rfl).mono ?_
  rintro e w3 ⟨rfl, hx⟩
  replace hE := hE.out
  replace hb2 := hb2.out
  replace hE := ext_trans hE hx
  replace hb2 := (hx.block _ (heap_lt hb2)).trans hb2
  clear hx
  replace hE := Lib.hid hE
  replace hb2 := Lib.hid hb2
  go_wp2_with (go_at_call 110; refine Hid.out ?_)
  refine Lib.hid ?_
  replace hE := hE.out
  replace hb2 := hb2.out
  refine (set_PT p.headF (putN 0 21 0#64 (nameW 0)) w3).mono ?_
  rintro e w' hR
  obtain ⟨v', F', rfl, hX, hp, hbn, hsub, hnF, hbq⟩ := hR.tail (G := noF) (w.heap.size + 1 + 1) hE (heap_lt hb2) (fun h => h) (fun _ h => h.elim)
  have hbx := hbq.trans hb2
  clear hbq hR
  clear hE hb2
  obtain ⟨a2, fn2, rfl, hfn⟩ := shN hp
  have hXX := put6_ext (b := w.heap.size + 1 + 1) (.int .i64 a2.op) (.int .i64 a2.at_) (.int .u64 (U a2.a)) (.int .u64 (U a2.b)) (fn2) (.pointer none) hX (by omega)
  have hB := put6_block (.int .i64 a2.op) (.int .i64 a2.at_) (.int .u64 (U a2.a)) (.int .u64 (U a2.b)) (fn2) (.pointer none) hbx
  have hP := hp.agr (Agr.of_put6 (b := w.heap.size + 1 + 1) (.int .i64 a2.op) (.int .i64 a2.at_) (.int .u64 (U a2.a)) (.int .u64 (U a2.b)) (fn2) (.pointer none) hnF)
  have hS : (put6 (w.heap.size + 1 + 1) (.int .i64 a2.op) (.int .i64 a2.at_) (.int .u64 (U a2.a)) (.int .u64 (U a2.b)) (fn2) (.pointer none) w').heap.size = w'.heap.size := put6_size (.int .i64 a2.op) (.int .i64 a2.at_) (.int .u64 (U a2.a)) (.int .u64 (U a2.b)) (fn2) (.pointer none)
  obtain ⟨c0, c1, c2, c3, c4, c5, cz, ll⟩ := six_of hbx
  rw [put6] at hXX hB hP hS
  have HX := Lib.hid (And.intro hXX (And.intro hB (And.intro hP hS)))
  have HFN := Lib.hid hfn
  have HBN := Lib.hid hbn
  have HSUB := Lib.hid hsub
  clear hXX hB hP hS hX hbx hp hfn hbn hsub hnF
  rcases HFN.out with rfl | ⟨g', caps', rfl⟩
  all_goals
    go_wp2
    clear c0 c1 c2 c3 c4 c5 cz ll
    obtain ⟨hX, hB, hP, hS⟩ := HX.out
    clear HX
    generalize (World.setCell _ (⟨w.heap.size + 1 + 1, 5, none⟩ : Addr) _) = Z at hX hB hP hS ⊢
    obtain ⟨c0, c1, c2, c3, c4, c5, cz, ll⟩ := six_of hB
    exact bodyPost_ret (by simp only [results, Tryz.results92, go_sem]; simp [go_sem, c0, c1, c2, c3, c4, c5]) rfl ⟨_, F', rfl, hX, hP, fun j hj => by rw [hS]; exact HBN.out j hj, HSUB.out⟩
set_option maxRecDepth 8000 in
set_option maxHeartbeats 2000000 in
theorem fresh_more (p : Pl) (n : Int) (t : Tr Unit) (h0 : 0 ≤ n) (h1 : n < p.n) (h2 : p.n ≤ 1048576) (hN : ∀ W, Calls Tryz.prog 92 #[plV p, .int .i64 (n + 1)] W (RetP (PT kN t) noF W)) (w : World) : Calls Tryz.prog 92 #[plV p, .int .i64 n] w (RetP (PT kN ((setT (p.nxF n) (fnxW p n)).bind fun _ => t)) noF w) := by
  have ew : wrap64 (n + 1) = n + 1 := by unfold wrap64; omega
  replace hN := Lib.hid hN
  replace ew := Lib.hid ew
  go_enter Tryz.func92, Tryz.ntmps92
  go_wp2
  have hE : Ext w (((w.alloc (.cells #[.int .i64 p.n, .int .i64 p.t, .int .i64 p.r, .int .i64 p.d, .int .i64 p.b, .int .i64 p.g] 23)).alloc (.cells #[.int .i64 n] 3)).alloc (.cells #[.int .i64 0, .int .i64 0, .int .u64 0, .int .u64 0, .nilFunc, .pointer none] 87)) := by repeat (first | exact ext_refl _ | apply ext_alloc)
  have hb0 : (((w.alloc (.cells #[.int .i64 p.n, .int .i64 p.t, .int .i64 p.r, .int .i64 p.d, .int .i64 p.b, .int .i64 p.g] 23)).alloc (.cells #[.int .i64 n] 3)).alloc (.cells #[.int .i64 0, .int .i64 0, .int .u64 0, .int .u64 0, .nilFunc, .pointer none] 87)).heap[w.heap.size]? = some (.cells #[.int .i64 p.n, .int .i64 p.t, .int .i64 p.r, .int .i64 p.d, .int .i64 p.b, .int .i64 p.g] 23) := (Below.heap_alloc _ _ _ (by simp <;> omega)).trans ((Below.heap_alloc _ _ _ (by simp <;> omega)).trans (heap_at _ _ _ (by simp)))
  have hb1 : (((w.alloc (.cells #[.int .i64 p.n, .int .i64 p.t, .int .i64 p.r, .int .i64 p.d, .int .i64 p.b, .int .i64 p.g] 23)).alloc (.cells #[.int .i64 n] 3)).alloc (.cells #[.int .i64 0, .int .i64 0, .int .u64 0, .int .u64 0, .nilFunc, .pointer none] 87)).heap[w.heap.size + 1]? = some (.cells #[.int .i64 n] 3) := (Below.heap_alloc _ _ _ (by simp <;> omega)).trans (heap_at _ _ _ (by simp))
  have hb2 : (((w.alloc (.cells #[.int .i64 p.n, .int .i64 p.t, .int .i64 p.r, .int .i64 p.d, .int .i64 p.b, .int .i64 p.g] 23)).alloc (.cells #[.int .i64 n] 3)).alloc (.cells #[.int .i64 0, .int .i64 0, .int .u64 0, .int .u64 0, .nilFunc, .pointer none] 87)).heap[w.heap.size + 1 + 1]? = some (.cells #[.int .i64 0, .int .i64 0, .int .u64 0, .int .u64 0, .nilFunc, .pointer none] 87) := heap_at _ _ _ (by simp)
  have hW : (((w.alloc (.cells #[.int .i64 p.n, .int .i64 p.t, .int .i64 p.r, .int .i64 p.d, .int .i64 p.b, .int .i64 p.g] 23)).alloc (.cells #[.int .i64 n] 3)).alloc (.cells #[.int .i64 0, .int .i64 0, .int .u64 0, .int .u64 0, .nilFunc, .pointer none] 87)).heap.size = w.heap.size + 1 + 1 + 1 := by simp
  generalize (((w.alloc (.cells #[.int .i64 p.n, .int .i64 p.t, .int .i64 p.r, .int .i64 p.d, .int .i64 p.b, .int .i64 p.g] 23)).alloc (.cells #[.int .i64 n] 3)).alloc (.cells #[.int .i64 0, .int .i64 0, .int .u64 0, .int .u64 0, .nilFunc, .pointer none] 87)) = W at hE hb0 hb1 hb2 hW ⊢
  have ⟨c0, c1, c2, c3, c4, c5, lt⟩ := PBox.plc hb0
  have d2 := cell_at (o := 0) hb1 rfl
  have e2 := cell_lt d2
  replace hE := Lib.hid hE
  replace hb0 := Lib.hid hb0
  replace hb1 := Lib.hid hb1
  replace hb2 := Lib.hid hb2
  replace hW := Lib.hid hW
  refine wp_region_mix (fun w' => ∃ s, w' = over W s) [(0, [0, 1, 3, 4, 7]), (1, [2]), (1, [5]), (1, [6]), (1, [8]), (2, [9])] (by kernel_rfl) (by kernel_rfl) (over_of (ext_drew (ext_refl W))) ?_
  simp only [pieces, pickL, List.map_cons, List.map_nil, List.getD_cons_zero, List.getD_cons_succ]
  refine mix_reads ?_
  repeat (go_big_quiet_step (fail))
  refine wpQuiet_nil (mix_acts ?_)
  have HX0 := Lib.hid (ext_drew (ext_refl W))
  go_wp2_with (go_at_call 71; refine (next_any p n _).mono ?_; rintro e w1 ⟨rfl, hx⟩; have HX1 := Lib.hid (ext_trans HX0.out hx); clear hx)
  refine mixQ_mk (over_of HX1.out) (mix_acts ?_)
  go_wp2_with (go_at_call 140; refine (fnx_any p n h0 h1 h2 _).mono ?_; rintro e w2 ⟨rfl, hx⟩; have HX2 := Lib.hid (ext_trans HX1.out hx); clear hx)
  refine mixQ_mk (over_of HX2.out) (mix_acts ?_)
  go_wp2_with (go_at_call 110; refine (set_PT (p.nxF n) (fnxW p n) _).mono ?_; rintro e w3 ⟨v1, F1, rfl, hx, hp1, hbn1, hsub1⟩; refine Hid.out ?_)
  refine Lib.hid ?_
  replace hE := hE.out
  replace hb0 := hb0.out
  replace hb1 := hb1.out
  replace hb2 := hb2.out
  replace hW := hW.out
  have hn1 : ¬ F1 (w.heap.size + 1 + 1) := fun h => (hsub1 _ h).elim (fun h => h) fun h => by have := heap_lt hb2; have := HX2.out.size; omega
  have hs1 : ∀ j, F1 j → noF j ∨ w.heap.size ≤ j := fun j hj => (hsub1 j hj).imp_right fun h => Nat.le_trans (Nat.le_trans hE.size HX2.out.size) h
  have HX3 := Lib.hid (ext_trans HX2.out hx)
  replace hb0 := (HX3.out.block _ (heap_lt hb0)).trans hb0
  replace hb1 := (HX3.out.block _ (heap_lt hb1)).trans hb1
  replace hb2 := (HX3.out.block _ (heap_lt hb2)).trans hb2
  replace hE := ext_trans hE HX3.out
  clear hx hsub1
  replace hE := Lib.hid hE
  replace hb0 := Lib.hid hb0
  replace hb1 := Lib.hid hb1
  replace hb2 := Lib.hid hb2
  replace hW := Lib.hid hW
  replace hp1 := Lib.hid hp1
  replace hbn1 := Lib.hid hbn1
  replace hs1 := Lib.hid hs1
  replace hn1 := Lib.hid hn1
  go_wp2
  refine mixQ_mk (over_of HX3.out) (mix_acts ?_)
  go_wp2_with (go_at_call 130; refine Hid.out ?_)
  refine Lib.hid ?_
  replace hE := hE.out
  replace hb0 := hb0.out
  replace hb1 := hb1.out
  replace hb2 := hb2.out
  replace hW := hW.out
  replace hp1 := hp1.out
  replace hbn1 := hbn1.out
  replace hs1 := hs1.out
  replace hn1 := hn1.out
  have hCT := fresh1_CT p n t w.heap.size (w.heap.size + 1) w3 ew.out hb0 hb1 hN.out
  refine (then_NN _ _ F1 _ v1 _ w3 hp1 hCT hbn1 (fun j h => by rcases h with rfl | rfl; exact heap_lt hb0; exact heap_lt hb1)).mono ?_
  rintro e w' hR
  have HXZ := Lib.hid (ext_trans HX3.out hR.ext)
  obtain ⟨v', F', rfl, hX, hp, hbn, hsub, hnF, hbq⟩ := hR.tail (G := noF) (w.heap.size + 1 + 1) hE (heap_lt hb2) (fun h => by rcases h with h | h | h; exact hn1 h; omega; omega) (fun j h => by rcases h with h | h | h; exact hs1 j h; exact .inr (by omega); exact .inr (by omega))
  have hbx := hbq.trans hb2
  clear hbq hR
  go_wp2
  refine mixQ_mk (over_of HXZ.out) (mix_late ?_)
  clear hE hb0 hb1 hb2 hW c0 c1 c2 c3 c4 c5 lt d2 e2 hN hp1 hbn1 hs1 hn1 hCT ew
  obtain ⟨a2, fn2, rfl, hfn⟩ := shN hp
  have hXX := put6_ext (b := w.heap.size + 1 + 1) (.int .i64 a2.op) (.int .i64 a2.at_) (.int .u64 (U a2.a)) (.int .u64 (U a2.b)) (fn2) (.pointer none) hX (by omega)
  have hB := put6_block (.int .i64 a2.op) (.int .i64 a2.at_) (.int .u64 (U a2.a)) (.int .u64 (U a2.b)) (fn2) (.pointer none) hbx
  have hP := hp.agr (Agr.of_put6 (b := w.heap.size + 1 + 1) (.int .i64 a2.op) (.int .i64 a2.at_) (.int .u64 (U a2.a)) (.int .u64 (U a2.b)) (fn2) (.pointer none) hnF)
  have hS : (put6 (w.heap.size + 1 + 1) (.int .i64 a2.op) (.int .i64 a2.at_) (.int .u64 (U a2.a)) (.int .u64 (U a2.b)) (fn2) (.pointer none) w').heap.size = w'.heap.size := put6_size (.int .i64 a2.op) (.int .i64 a2.at_) (.int .u64 (U a2.a)) (.int .u64 (U a2.b)) (fn2) (.pointer none)
  obtain ⟨c0, c1, c2, c3, c4, c5, cz, ll⟩ := six_of hbx
  rw [put6] at hXX hB hP hS
  have HX := Lib.hid (And.intro hXX (And.intro hB (And.intro hP hS)))
  have HFN := Lib.hid hfn
  have HBN := Lib.hid hbn
  have HSUB := Lib.hid hsub
  clear hXX hB hP hS hX hbx hp hfn hbn hsub hnF
  rcases HFN.out with rfl | ⟨g', caps', rfl⟩
  all_goals
    go_wp2
    refine lateQ_mk (fun _ => True) trivial (mix_end ?_)
    clear c0 c1 c2 c3 c4 c5 cz ll
    obtain ⟨hX, hB, hP, hS⟩ := HX.out
    clear HX
    generalize (World.setCell _ (⟨w.heap.size + 1 + 1, 5, none⟩ : Addr) _) = Z at hX hB hP hS ⊢
    obtain ⟨c0, c1, c2, c3, c4, c5, cz, ll⟩ := six_of hB
    go_wp2
    exact bodyPost_ret (by simp only [results, Tryz.results92, go_sem]; simp [go_sem, c0, c1, c2, c3, c4, c5]) rfl ⟨_, F', rfl, hX, hP, fun j hj => by rw [hS]; exact HBN.out j hj, HSUB.out⟩
theorem freshFrom_PT (p : Pl) (h2 : p.n ≤ 1048576) : ∀ (k : Nat) (n : Int), 0 ≤ n → n + k = p.n → ∀ (w : World), Calls Tryz.prog 92 #[plV p, .int .i64 n] w (RetP (PT kN (freshT p k n)) noF w)
  | 0, n, h0, h1, w => fresh_end p n (by omega) w
  | k + 1, n, h0, h1, w => fresh_more p n (freshT p k (n + 1)) h0 (by omega) h2 (fun W => freshFrom_PT p h2 k (n + 1) (by omega) (by omega) W) w
set_option maxRecDepth 8000 in
set_option maxHeartbeats 2000000 in
theorem fresh_PT (p : Pl) (h0 : 0 ≤ p.n) (h2 : p.n ≤ 1048576) (w : World) : Calls Tryz.prog 37 #[plV p] w (RetP (PT kN (freshT p p.n.toNat 0)) noF w) := by
  go_enter Tryz.func37, Tryz.ntmps37
  go_wp2_with (go_at_call 92; refine Hid.out ?_)
  refine Lib.hid ?_
  have hE : Ext w ((w.alloc (.cells #[.int .i64 p.n, .int .i64 p.t, .int .i64 p.r, .int .i64 p.d, .int .i64 p.b, .int .i64 p.g] 23)).alloc (.cells #[.int .i64 0, .int .i64 0, .int .u64 0, .int .u64 0, .nilFunc, .pointer none] 87)) := by repeat (first | exact ext_refl _ | apply ext_alloc)
  have hb0 : ((w.alloc (.cells #[.int .i64 p.n, .int .i64 p.t, .int .i64 p.r, .int .i64 p.d, .int .i64 p.b, .int .i64 p.g] 23)).alloc (.cells #[.int .i64 0, .int .i64 0, .int .u64 0, .int .u64 0, .nilFunc, .pointer none] 87)).heap[w.heap.size]? = some (.cells #[.int .i64 p.n, .int .i64 p.t, .int .i64 p.r, .int .i64 p.d, .int .i64 p.b, .int .i64 p.g] 23) := (Below.heap_alloc _ _ _ (by simp <;> omega)).trans (heap_at _ _ _ (by simp))
  have hb1 : ((w.alloc (.cells #[.int .i64 p.n, .int .i64 p.t, .int .i64 p.r, .int .i64 p.d, .int .i64 p.b, .int .i64 p.g] 23)).alloc (.cells #[.int .i64 0, .int .i64 0, .int .u64 0, .int .u64 0, .nilFunc, .pointer none] 87)).heap[w.heap.size + 1]? = some (.cells #[.int .i64 0, .int .i64 0, .int .u64 0, .int .u64 0, .nilFunc, .pointer none] 87) := heap_at _ _ _ (by simp)
  have hW : ((w.alloc (.cells #[.int .i64 p.n, .int .i64 p.t, .int .i64 p.r, .int .i64 p.d, .int .i64 p.b, .int .i64 p.g] 23)).alloc (.cells #[.int .i64 0, .int .i64 0, .int .u64 0, .int .u64 0, .nilFunc, .pointer none] 87)).heap.size = w.heap.size + 1 + 1 := by simp
  generalize ((w.alloc (.cells #[.int .i64 p.n, .int .i64 p.t, .int .i64 p.r, .int .i64 p.d, .int .i64 p.b, .int .i64 p.g] 23)).alloc (.cells #[.int .i64 0, .int .i64 0, .int .u64 0, .int .u64 0, .nilFunc, .pointer none] 87)) = W at hE hb0 hb1 hW ⊢
  replace hW := Lib.hid hW
  refine (freshFrom_PT p h2 p.n.toNat 0 (by omega) (by omega) W).mono ?_
  rintro e w' hR
  obtain ⟨v', F', rfl, hX, hp, hbn, hsub, hnF, hbq⟩ := hR.tail (G := noF) (w.heap.size + 1) hE (heap_lt hb1) (fun h => h) (fun _ h => h.elim)
  have hbx := hbq.trans hb1
  clear hbq hR
  clear hE hb0 hb1 hW
  obtain ⟨a2, fn2, rfl, hfn⟩ := shN hp
  have hXX := put6_ext (b := w.heap.size + 1) (.int .i64 a2.op) (.int .i64 a2.at_) (.int .u64 (U a2.a)) (.int .u64 (U a2.b)) (fn2) (.pointer none) hX (by omega)
  have hB := put6_block (.int .i64 a2.op) (.int .i64 a2.at_) (.int .u64 (U a2.a)) (.int .u64 (U a2.b)) (fn2) (.pointer none) hbx
  have hP := hp.agr (Agr.of_put6 (b := w.heap.size + 1) (.int .i64 a2.op) (.int .i64 a2.at_) (.int .u64 (U a2.a)) (.int .u64 (U a2.b)) (fn2) (.pointer none) hnF)
  have hS : (put6 (w.heap.size + 1) (.int .i64 a2.op) (.int .i64 a2.at_) (.int .u64 (U a2.a)) (.int .u64 (U a2.b)) (fn2) (.pointer none) w').heap.size = w'.heap.size := put6_size (.int .i64 a2.op) (.int .i64 a2.at_) (.int .u64 (U a2.a)) (.int .u64 (U a2.b)) (fn2) (.pointer none)
  obtain ⟨c0, c1, c2, c3, c4, c5, cz, ll⟩ := six_of hbx
  rw [put6] at hXX hB hP hS
  have HX := Lib.hid (And.intro hXX (And.intro hB (And.intro hP hS)))
  have HFN := Lib.hid hfn
  have HBN := Lib.hid hbn
  have HSUB := Lib.hid hsub
  clear hXX hB hP hS hX hbx hp hfn hbn hsub hnF
  rcases HFN.out with rfl | ⟨g', caps', rfl⟩
  all_goals
    go_wp2
    clear c0 c1 c2 c3 c4 c5 cz ll
    obtain ⟨hX, hB, hP, hS⟩ := HX.out
    clear HX
    generalize (World.setCell _ (⟨w.heap.size + 1, 5, none⟩ : Addr) _) = Z at hX hB hP hS ⊢
    obtain ⟨c0, c1, c2, c3, c4, c5, cz, ll⟩ := six_of hB
    exact bodyPost_ret (by simp only [results, Tryz.results37, go_sem]; simp [go_sem, c0, c1, c2, c3, c4, c5]) rfl ⟨_, F', rfl, hX, hP, fun j hj => by rw [hS]; exact HBN.out j hj, HSUB.out⟩
end Go.Proofs.YtpidmbclgfnekaaGreat
