/-
  The reference's worker, a value: how it stands for a worker; what its Give comes to. Conditions: those of each theorem.
-/
import Derived.Test.YthepcnffadjeaaaThreadLaw
import Derived.Test.YthepcnffadjeaaaMemRAny
import Derived.OwnWalk
namespace Go.Proofs.Ythepcnffadjeaaa
open Go Go.RowKit

/-- A slice of things of one cell each, whose block is none of D. -/
def RowB (D : Nat → Prop) (w : World) (v : Value) (us : List Value) : Prop :=
  ∃ a0 cap, v = .slice a0 us.length cap ∧ us.length ≤ cap ∧ (0 < us.length → ∃ b o, a0 = some ⟨b, o, none⟩ ∧ ¬ D b ∧ b < w.heap.size ∧ ∀ j u, us[j]? = some u → w.cell? ⟨b, o + j, none⟩ = some u)
section
variable {D : Nat → Prop} {w w' : World} {v : Value} {us : List Value}
theorem RowB.fr (h : RowB D w v us) (hf : FD D w w') : RowB D w' v us := by
  obtain ⟨a0, cap, e, hc, hr⟩ := h
  refine ⟨a0, cap, e, hc, fun hl => ?_⟩
  obtain ⟨b, o, ea, h0, hlt, hcell⟩ := hr hl
  exact ⟨b, o, ea, h0, Nat.lt_of_lt_of_le hlt hf.size, fun j u hj => (hf.cell hlt h0).trans (hcell j u hj)⟩
theorem RowB.ext (h : RowB D w v us) (hx : Ext w w') : RowB D w' v us := h.fr (.of_ext hx)
theorem RowB.mono {E : Nat → Prop} (h : RowB E w v us) (hd : ∀ k, D k → E k) : RowB D w v us := by
  obtain ⟨a0, cap, e, hc, hr⟩ := h
  refine ⟨a0, cap, e, hc, fun hl => ?_⟩
  obtain ⟨b, o, ea, h0, hlt, hcell⟩ := hr hl
  exact ⟨b, o, ea, fun x => h0 (hd b x), hlt, hcell⟩
theorem RowB.nil (D : Nat → Prop) (w : World) : RowB D w (.slice none 0 0) [] := ⟨none, 0, rfl, Nat.le_refl _, fun h => absurd h (Nat.not_lt_zero _)⟩
theorem RowB.of_own {base : Nat} {e : TypeId} {n : Nat} (h : w.ownsRow base e 1 v n us) (hn : us.length = n) (hb : ∀ k, D k → k < base) : RowB D w v us := by
  subst hn
  rcases h.2 with ⟨rfl, h2⟩ | ⟨g, cap, cur, rfl, hg, hh, hc, hm, hs, ht⟩
  · have : us = [] := List.eq_nil_of_length_eq_zero h2
    subst this
    exact RowB.nil D w
  · refine ⟨_, cap, rfl, hc, fun _ => ⟨g, 0, rfl, fun x => Nat.not_lt.2 hg (hb _ x), heap_lt hh, fun j u hj => ?_⟩⟩
    have hlt : j < us.length := (List.getElem?_eq_some_iff.1 hj).1
    rw [← ht, List.getElem?_take, if_pos (by omega), Array.getElem?_toList] at hj
    rw [Nat.zero_add]
    exact cell_at hh hj
theorem RowB.news {ad : Addr} {n c : Nat} (h : RowB D w (.slice (some ad) n c) us) : ∀ j u, us[j]? = some u → w.cell? (ad.add j) = some u := by
  intro j u hj
  have hlt : j < us.length := (List.getElem?_eq_some_iff.1 hj).1
  obtain ⟨a0, cap, e, hc, hr⟩ := h
  simp at e
  obtain ⟨rfl, _, _⟩ := e
  obtain ⟨b, o, ea, _, _, hcell⟩ := hr (by omega)
  cases ea
  rw [add_at']
  exact hcell j u hj
theorem RowB.some0 {a0 : Option Addr} {n c : Nat} (h : RowB D w (.slice a0 n c) us) : a0 = none → us.length = 0 := by
  intro e
  obtain ⟨a1, cap, e1, hc, hr⟩ := h
  simp at e1
  obtain ⟨rfl, _, _⟩ := e1
  by_cases hl : 0 < us.length
  · obtain ⟨b, o, ea, _⟩ := hr hl
    rw [ea] at e
    cases e
  · omega
end
theorem own_shape {w : World} {base : Nat} {e : TypeId} {size : Nat} {v : Value} {n : Nat} {xs : List Value} (h : w.ownsRow base e size v n xs) : ∃ a c, v = .slice a n c := by
  rcases h.2 with ⟨h1, h2⟩ | ⟨g, cap, cur, h1, _⟩
  · exact ⟨none, 0, by rw [h1, h2]⟩
  · exact ⟨_, cap, h1⟩
theorem Qs.ones {D : Nat → Prop} {w : World} : ∀ {us : List Value} {ls : List (List Acc)}, Qs D w us ls → ∀ u ∈ us, u.oneCell' = true
  | [], [], _, u, hu => by cases hu
  | x :: us, l :: ls, h, u, hu => by
    rcases List.mem_cons.1 hu with rfl | hu
    · obtain ⟨a, c, rfl, _⟩ := h.1
      rfl
    · exact Qs.ones h.2 u hu

/-- The reference's worker stands for S: its box vb, what is left vl, what was told vt; w: where the law began. -/
structure VSt (D : Nat → Prop) (S : WS) (vb vl vt : Value) (w wr : World) : Prop where
  b : ∃ us, RowB D wr vb us ∧ Qs (fun _ => False) w us S.q
  l : ∃ a n c, vl = .slice a n c
  t : ∃ a n c, vt = .slice a n c
  bl : S.busy = true → AsB (fun _ => False) w vl S.l
  bt : S.busy = true → UsB D wr vt S.t
theorem VSt.fr {D : Nat → Prop} {S : WS} {vb vl vt : Value} {w wr wr' : World} (h : VSt D S vb vl vt w wr) (hf : FD D wr wr') : VSt D S vb vl vt w wr' := by
  obtain ⟨us, h1, h2⟩ := h.b
  exact ⟨⟨us, h1.fr hf, h2⟩, h.l, h.t, h.bl, fun hb => (h.bt hb).fr hf⟩
theorem VSt.ext {D : Nat → Prop} {S : WS} {vb vl vt : Value} {w wr wr' : World} (h : VSt D S vb vl vt w wr) (hx : Ext wr wr') : VSt D S vb vl vt w wr' := h.fr (.of_ext hx)
theorem VSt.slice {D : Nat → Prop} {S : WS} {vb vl vt : Value} {w wr : World} (h : VSt D S vb vl vt w wr) : ∃ a c, vb = .slice a S.q.length c := by
  obtain ⟨us, ⟨a, c, e, _⟩, h2⟩ := h.b
  exact ⟨a, c, by rw [e, h2.len]⟩
/-- Five cells, one by one. -/
structure Fiv (b : Nat) (x0 x1 x2 x3 x4 : Value) (w : World) : Prop where
  c0 : w.cell? ⟨b, 0, none⟩ = some x0
  c1 : w.cell? ⟨b, 1, none⟩ = some x1
  c2 : w.cell? ⟨b, 2, none⟩ = some x2
  c3 : w.cell? ⟨b, 3, none⟩ = some x3
  c4 : w.cell? ⟨b, 4, none⟩ = some x4
  cz : ∀ o, w.frozen? ⟨b, o, none⟩ = false
  lt : b < w.heap.size
theorem fiv_of {w : World} {b : Nat} {x0 x1 x2 x3 x4 : Value} {t : TypeId} (h : w.heap[b]? = some (.cells #[x0, x1, x2, x3, x4] t (0, 0))) : Fiv b x0 x1 x2 x3 x4 w :=
  ⟨cell_at h rfl, cell_at h rfl, cell_at h rfl, cell_at h rfl, cell_at h rfl, fun _ => free_at h, heap_lt h⟩
/-- The value. -/
def wV (S : WS) (vb vl vt : Value) : Value := .agg #[.int .i64 (S.n : Int), vb, .bool S.busy, vl, vt]

theorem Try.infoAccs : (Try.prog.info? 40).map (fun i => (i.zero, i.size, i.bytes)) = some (some (.slice none 0 0), 1, 24) := by kernel_rfl
section
variable {D : Nat → Prop} {S : WS} {vb vl vt : Value} {w wr : World}
set_option maxRecDepth 8000 in
set_option maxHeartbeats 1000000 in
theorem rgive_no (h : VSt D S vb vl vt w wr) (lv : Value) (hq : S.n ≤ S.q.length) :
    Calls Try.prog 14 #[wV S vb vl vt, lv] wr (Ret (.tuple #[wV S vb vl vt, .bool false]) wr) := by
  obtain ⟨ba, bc, rfl⟩ := h.slice
  obtain ⟨la, ln, lc, rfl⟩ := h.l
  obtain ⟨ta, tn, tc, rfl⟩ := h.t
  have q0 : decide ((S.n : Int) ≤ (S.q.length : Int)) = true := by simp; omega
  clear h
  unfold wV
  go_enter Try.func14, Try.ntmps14
  go_wp2
  exact bodyPost_ret (by simp only [results, Try.results14, go_sem]; simp [go_sem]) rfl (Ret.mk (by repeat (first | exact ext_refl _ | apply ext_alloc)))
def RetRG (D : Nat → Prop) (S S' : WS) (vl vt : Value) (w wr : World) (e : Ending) (w' : World) : Prop :=
  ∃ vb', e = .returned (.tuple #[wV S vb' vl vt, .bool true]) ∧ VSt D S' vb' vl vt w w' ∧ Ext wr w'
set_option maxRecDepth 8000 in
set_option maxHeartbeats 1000000 in
theorem rgive_yes (h : VSt D S vb vl vt w wr) (l : List Acc) (lv : Value) (hA : AsB (fun _ => False) w lv l) (hq : S.q.length < S.n) (hs : S.q.length ≤ 5000) (hb : ∀ k, D k → k < wr.heap.size) :
    Calls Try.prog 14 #[wV S vb vl vt, lv] wr (RetRG D S (S.give l) vl vt w wr) := by
  have HV := Lib.hid h
  obtain ⟨us, hR, hQ⟩ := h.b
  have HR := Lib.hid hR
  have HQ := Lib.hid hQ
  have hlen := hQ.len
  have HLEN := Lib.hid hlen
  obtain ⟨ba, bc, rfl, _⟩ := hR
  have H0 := Lib.hid HR.out.some0
  obtain ⟨la, ln, lc, rfl⟩ := h.l
  obtain ⟨ta, tn, tc, rfl⟩ := h.t
  have HA := Lib.hid hA
  obtain ⟨xa, xc, rfl, _⟩ := hA
  have q0 : decide ((S.n : Int) ≤ (us.length : Int)) = false := by simp; omega
  have hqu : us.length < S.n := by omega
  have hqn : ¬ (S.n ≤ us.length) := by omega
  have hul : us.length ≤ 5000 := by omega
  obtain ⟨iU, hiU, hy0, hy1, hy2⟩ := info_parts Try.infoAccs
  clear h hQ hlen
  unfold wV
  go_enter Try.func14, Try.ntmps14
  go_wp2_with (at_builtin; refine Hid.out ?_)
  refine Lib.hid ?_
  have hX0 : ∀ o2, Ext wr ((wr.alloc (.cells #[.int .i64 (S.n : Int), .slice ba us.length bc, .bool S.busy, .slice la ln lc, .slice ta tn tc] 42)).alloc o2) := fun o2 => ext_alloc _ (ext_alloc _ (ext_refl wr))
  have hk0 := (ext_alloc (.cells #[.int .i64 0, .slice none 0 0, .bool false, .slice none 0 0, .slice none 0 0] 42) (ext_refl (wr.alloc (.cells #[.int .i64 (S.n : Int), .slice ba us.length bc, .bool S.busy, .slice la ln lc, .slice ta tn tc] 42)))).block wr.heap.size (by simp)
  rw [heap_at wr _ _ rfl] at hk0
  have hk1 := heap_at (wr.alloc (.cells #[.int .i64 (S.n : Int), .slice ba us.length bc, .bool S.busy, .slice la ln lc, .slice ta tn tc] 42)) (.cells #[.int .i64 0, .slice none 0 0, .bool false, .slice none 0 0, .slice none 0 0] 42) (wr.heap.size + 1) (by simp)
  have hx0 := hX0 (.cells #[.int .i64 0, .slice none 0 0, .bool false, .slice none 0 0, .slice none 0 0] 42)
  have hz0 : ((wr.alloc (.cells #[.int .i64 (S.n : Int), .slice ba us.length bc, .bool S.busy, .slice la ln lc, .slice ta tn tc] 42)).alloc (.cells #[.int .i64 0, .slice none 0 0, .bool false, .slice none 0 0, .slice none 0 0] 42)).heap.size = wr.heap.size + 2 := by simp
  generalize hW : (wr.alloc (.cells #[.int .i64 (S.n : Int), .slice ba us.length bc, .bool S.busy, .slice la ln lc, .slice ta tn tc] 42)).alloc (.cells #[.int .i64 0, .slice none 0 0, .bool false, .slice none 0 0, .slice none 0 0] 42) = W at hk0 hk1 hx0 hz0 ⊢
  have HK0 := Lib.hid hk0
  have HK1 := Lib.hid hk1
  have HX0 := Lib.hid hx0
  clear hW hk0 hk1 hx0 hX0
  refine wpList_append_opt rfl (.tmp 13) (.tmp 15) 39 rfl W.heap.size 40 iU (.slice none 0 0) 1 24 Try.underlying39 hiU hy0 hy1 hy2 rfl (by decide) (.slice (some ⟨wr.heap.size + 1 + 1, 0, none⟩) 0 0) 0 [] rfl (own_none _ _ _ _ _ (by omega) (Nat.le_refl _)) ba us.length bc us rfl H0.out (by simp) (fun ad ea => RowB.news (D := D) (by rw [← ea]; exact (HR.out.ext HX0.out).ext (ext_alloc _ (ext_refl W)))) HQ.out.ones (by unfold maxLen; omega) (by omega) (by simp) ?_
  intro v2 w2 hv2 hg2
  have HV2 := Lib.hid hv2
  have HX2 := Lib.hid (ext_own (w := W) (ext_alloc _ (ext_refl W)) (own_none W W.heap.size 40 1 (wr.heap.size + 1 + 1) (by omega) (Nat.le_refl _)) hg2)
  clear hv2 hg2
  go_wp2_with (at_builtin; refine wpList_append_own _ rfl (.tmp 16) (.tmp 18) 39 rfl W.heap.size 40 iU (.slice none 0 0) 1 24 Try.underlying39 hiU hy0 hy1 hy2 rfl (by decide) v2 (0 + us.length) ([] ++ us) rfl (own_ext' HV2.out (ext_alloc _ (ext_refl w2))) ⟨w2.heap.size, 0, none⟩ 1 1 [.slice xa l.length xc] rfl rfl (newp _ _ _ _ rfl) (by simp [Value.oneCell']) (by unfold maxLen; omega) (by omega) (by have := HX2.out.size; simp; omega) ?_; intro v3 w3 hv3 hg3 hn3; obtain ⟨va, vc, rfl⟩ := own_shape hv3; have HV3 := Lib.hid hv3; have HX3 := Lib.hid (ext_own (w := W) (ext_alloc _ HX2.out) (own_ext' HV2.out (ext_alloc _ (ext_refl w2))) hg3); clear hv3 hg3 hn3; have hkk := (HX3.out.block wr.heap.size (by omega)).trans HK0.out; obtain ⟨c0, c1, c2, c3, c4, cz, ll⟩ := fiv_of hkk; have hkj := (HX3.out.block (wr.heap.size + 1) (by omega)).trans HK1.out; obtain ⟨d0, d1, d2, d3, d4, dz, dl⟩ := fiv_of hkj; clear hkk hkj)
  have hfs : FD (fun k => k < W.heap.size ∧ wr.heap.size ≤ k) w3 ((((((w3.setCell ⟨wr.heap.size, 1, none⟩ (.slice va (us.length + 1) vc)).setCell ⟨wr.heap.size + 1, 0, none⟩ (.int .i64 (S.n : Int))).setCell ⟨wr.heap.size + 1, 1, none⟩ (.slice va (us.length + 1) vc)).setCell ⟨wr.heap.size + 1, 2, none⟩ (.bool S.busy)).setCell ⟨wr.heap.size + 1, 3, none⟩ (.slice la ln lc)).setCell ⟨wr.heap.size + 1, 4, none⟩ (.slice ta tn tc)) :=
    (((((((FD.refl _ w3).set (p := ⟨wr.heap.size, 1, none⟩) _ (by simp; omega)).set (p := ⟨wr.heap.size + 1, 0, none⟩) _ (by simp; omega)).set (p := ⟨wr.heap.size + 1, 1, none⟩) _ (by simp; omega)).set (p := ⟨wr.heap.size + 1, 2, none⟩) _ (by simp; omega)).set (p := ⟨wr.heap.size + 1, 3, none⟩) _ (by simp; omega)).set (p := ⟨wr.heap.size + 1, 4, none⟩) _ (by simp; omega))
  refine bodyPost_ret (v := .tuple #[wV S (.slice va (us.length + 1) vc) (.slice la ln lc) (.slice ta tn tc), .bool true]) (by simp only [results, Try.results14, go_sem]; simp [go_sem, d0, d1, d2, d3, d4, wV]) rfl ⟨_, rfl, ?_, hfs.below (ext_trans HX0.out HX3.out) (fun k hk => hk.2)⟩
  have hr3 : RowB (fun k => k < W.heap.size) w3 (.slice va (us.length + 1) vc) (us ++ [.slice xa l.length xc]) := by
    have h5 := HV3.out
    rw [Nat.zero_add, List.nil_append] at h5
    exact RowB.of_own h5 (by simp) fun _ h => h
  exact ⟨⟨_, (hr3.fr (hfs.wide fun _ hk => hk.1)).mono fun k hk => by have := hb k hk; omega, HQ.out.snoc HA.out⟩, ⟨_, _, _, rfl⟩, ⟨_, _, _, rfl⟩, HV.out.bl, fun hbu => by
    have h6 := ((HV.out.bt hbu).more (E := fun k => D k ∨ (wr.heap.size ≤ k ∧ k < W.heap.size)) fun k hk => ⟨fun h => h.resolve_right (by omega), .inl⟩).fr (.of_ext (ext_trans HX0.out HX3.out))
    exact (h6.fr (hfs.wide fun _ hk => .inr ⟨hk.2, hk.1⟩)).mono fun _ hk => .inl hk⟩
end
end Go.Proofs.Ythepcnffadjeaaa
