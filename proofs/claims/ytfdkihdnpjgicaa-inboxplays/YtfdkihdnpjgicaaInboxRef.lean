/-
  What the reference's Put comes to. Conditions: those of each theorem.
-/
import Derived.Test.YtfdkihdnpjgicaaInboxUse
import Derived.Test.YtfdkihdnpjgicaaApps
import Derived.OwnWalk
namespace Go.Proofs.Ytfdkihdnpjgicaa
open Go Go.RowKit Go.Conc

theorem Try.infoInt : (Try.prog.info? 3).map (fun i => (i.zero, i.size, i.bytes)) = some (some (.int .i64 0), 1, 8) := by kernel_rfl
theorem news_is {w : World} {ad : Addr} {n c : Nat} {l : List Int} (h : Is w (.slice (some ad) n c) l) : ∀ j u, (vI l)[j]? = some u → w.cell? (ad.add j) = some u := by
  intro j u hj
  have hlt : j < l.length := by
    have := (List.getElem?_eq_some_iff.1 hj).1
    simpa [vI] using this
  obtain ⟨b, off, ea, _, hc⟩ := h.at (by omega)
  cases ea
  rw [add_at', hc j hlt]
  unfold vI at hj
  rw [List.getElem?_map, List.getElem?_eq_getElem hlt, iN_get l j hlt] at hj
  simpa using hj
theorem ones_is (l : List Int) : ∀ u ∈ vI l, u.oneCell' = true := by
  intro u hu
  obtain ⟨i, _, rfl⟩ := List.mem_map.1 hu
  rfl
theorem is_of_own {base : Nat} {w : World} {e : TypeId} {v : Value} {l : List Int} (h : w.ownsRow base e 1 v l.length (vI l)) : Is w v l := by
  rcases h.2 with ⟨rfl, h2⟩ | ⟨g, cap, cur, rfl, hg, hh, hc, hm, hs, ht⟩
  · exact ⟨none, 0, by rw [h2], by omega, fun x => by omega⟩
  · refine ⟨_, cap, rfl, hc, fun _ => ⟨g, 0, rfl, (Array.getElem?_eq_some_iff.1 hh).1, fun i hi => ?_⟩⟩
    refine cell_at hh ?_
    have h3 : (cur.toList.take (l.length * 1))[i]? = (vI l)[i]? := by rw [ht]
    unfold vI at h3
    rw [List.getElem?_take, if_pos (by omega), Array.getElem?_toList, List.getElem?_map, List.getElem?_eq_getElem hi, iN_get l i hi] at h3
    rw [Nat.zero_add, h3]
    rfl
theorem newx (w : World) (x : Value) (t : TypeId) : ∀ j u, ([x] : List Value)[j]? = some u → (w.alloc (.cells #[x] t)).cell? ((⟨w.heap.size, 0, none⟩ : Addr).add j) = some u := by
  intro j u hj
  rw [add_at']
  refine cell_at (heap_alloc_new w _) ?_
  rw [Nat.zero_add]
  simpa using hj
/-- A row of ints is none of a box's channel. -/
theorem Is.box {p c n : Nat} {q : List Value} {w w' : World} {v : Value} {l : List Int} (h : Is w v l) (hB : BoxAt p c n q w) (hF : Fr c (c + 1) w w') : Is w' v l := by
  obtain ⟨a0, cap, rfl, hc, hr⟩ := h
  refine ⟨a0, cap, rfl, hc, fun hl => ?_⟩
  obtain ⟨b, off, rfl, hb, hcell⟩ := hr hl
  have hne : b ≠ c := by
    obtain ⟨s, r, hch⟩ := hB.chan
    intro e
    subst e
    have := hcell 0 hl
    simp [World.cell?, hch] at this
  exact ⟨b, off, rfl, Nat.lt_of_lt_of_le hb hF.size, fun i hi => (hF.cell hb (by omega)).trans (hcell i hi)⟩

set_option maxHeartbeats 400000 in
theorem rput_no (l : List Int) (v : Value) (size x : Int) (w : World) (hU : Is w v l) (hl : size ≤ l.length) :
    Calls Try.prog 11 #[v, .int .i64 size, .int .i64 x] w fun e w' => e = .returned (.tuple #[v, .bool false]) ∧ w = w' := by
  obtain ⟨a0, cap, rfl, _⟩ := hU
  go_enter Try.func11, Try.ntmps11
  go_wp2
  go_ret2
  exact ⟨rfl, rfl⟩

set_option maxRecDepth 8000 in
set_option maxHeartbeats 1000000 in
theorem rput_yes (l : List Int) (v : Value) (size x : Int) (w : World) (hU : Is w v l) (hl : (l.length : Int) < size) (hs : l.length ≤ 1000) :
    Calls Try.prog 11 #[v, .int .i64 size, .int .i64 x] w fun e w' => ∃ v', e = .returned (.tuple #[v', .bool true]) ∧ Is w' v' (l ++ [x]) ∧ Ext w w' := by
  have HU := Lib.hid hU
  obtain ⟨a0, cap, rfl, hc, hcell⟩ := hU
  have h0 : a0 = none → l.length = 0 := by
    intro e
    cases l with
    | nil => rfl
    | cons x l => obtain ⟨b, off, ea, _⟩ := hcell (by simp); rw [e] at ea; cases ea
  have H0 := Lib.hid h0
  clear hcell h0
  obtain ⟨iU, hiU, hy0, hy1, hy2⟩ := info_parts Try.infoInt
  have q0 : decide (size ≤ (l.length : Int)) = false := by simp; omega
  go_enter Try.func11, Try.ntmps11
  go_wp2_with (first
    | (at_builtin; refine wpList_append_opt rfl (.tmp 13) (.tmp 14) 29 rfl w.heap.size 3 iU (.int .i64 0) 1 8 Try.underlying29 hiU hy0 hy1 hy2 rfl (by decide) (.slice (some ⟨w.heap.size, 0, none⟩) 0 0) 0 [] rfl (own_none _ _ _ _ _ rfl (Nat.le_refl _)) a0 l.length cap (vI l) rfl H0.out (by simp [vI]) (fun ad ea => news_is (by rw [← ea]; exact HU.out.ext (ext_alloc _ (ext_refl w)))) (ones_is l) (by unfold maxLen; omega) (by omega) (by simp) ?_; intro v2 w2 hv2 hg2; have HV := Lib.hid hv2; have HX2 := Lib.hid (ext_own (w := w) (ext_alloc _ (ext_refl w)) (own_none _ _ _ 1 _ rfl (Nat.le_refl _)) hg2); clear hv2 hg2)
    | (at_builtin; refine wpList_append_own _ rfl (.tmp 15) (.tmp 17) 29 rfl w.heap.size 3 iU (.int .i64 0) 1 8 Try.underlying29 hiU hy0 hy1 hy2 rfl (by decide) v2 (0 + l.length) ([] ++ vI l) rfl (HV.out.alloc _) ⟨w2.heap.size, 0, none⟩ 1 1 [.int .i64 x] rfl rfl (newx _ _ _) (by simp [Value.oneCell']) (by unfold maxLen; omega) (by omega) (by have := HX2.out.size; simp; omega) ?_; intro v3 w3 hv3 hg3 hn3; have HV3 := Lib.hid hv3; have HX3 := Lib.hid (ext_own (w := w) (ext_alloc _ HX2.out) (HV.out.alloc _) hg3); clear hv3 hg3 hn3))
  go_ret2
  refine ⟨v3, rfl, ?_, HX3.out⟩
  have hv := HV3.out
  rw [Nat.zero_add, List.nil_append] at hv
  exact is_of_own (by rw [List.length_append]; unfold vI at hv ⊢; rw [List.map_append]; exact hv)

end Go.Proofs.Ytfdkihdnpjgicaa
