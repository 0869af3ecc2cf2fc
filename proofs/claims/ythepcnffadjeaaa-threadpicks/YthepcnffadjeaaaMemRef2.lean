/-
  What the reference's Bump comes to. Conditions: those of each theorem.
-/
import Derived.Test.YthepcnffadjeaaaMemRef1
import Derived.Test.YthepcnffadjeaaaMemBump
namespace Go.Proofs.Ythepcnffadjeaaa
open Go Go.RowKit

/-- A row of one cell each that is owned, cell by cell. -/
theorem own_row {w : World} {base : Nat} {e : TypeId} {v : Value} {n : Nat} {xs : List Value} (h : w.ownsRow base e 1 v n xs) (hn : 0 < n) :
    ∃ g cap, v = .slice (some ⟨g, 0, none⟩) n cap ∧ base ≤ g ∧ g < w.heap.size ∧ (∀ i, i < n → w.cell? ⟨g, i, none⟩ = xs[i]?) ∧ (∀ i, w.frozen? ⟨g, i, none⟩ = false) := by
  rcases h.2 with ⟨_, h2⟩ | ⟨g, cap, cur, rfl, hg, hh, hc, hm, hs, ht⟩
  · omega
  · refine ⟨g, cap, rfl, hg, heap_lt hh, fun i hi => ?_, fun i => free_at hh⟩
    have h3 : (cur.toList.take (n * 1))[i]? = xs[i]? := by rw [ht]
    rw [List.getElem?_take, if_pos (by omega), Array.getElem?_toList] at h3
    rw [← h3]
    simp [World.cell?, hh]
/-- What lies at an address, cell by cell, as append reads it. -/
theorem news_of {w : World} {b n : Nat} {x : Nat → Value} (h : ∀ i, i < n → w.cell? ⟨b, i, none⟩ = some (x i)) : ∀ j u, ((List.range n).map x)[j]? = some u → w.cell? ((⟨b, 0, none⟩ : Addr).add j) = some u := by
  intro j u hj
  rw [List.getElem?_map] at hj
  by_cases hlt : j < n
  · rw [List.getElem?_range hlt] at hj
    simp at hj
    subst hj
    rw [add_at', Nat.zero_add]
    exact h j hlt
  · rw [List.getElem?_eq_none (by simpa using hlt)] at hj
    cases hj
theorem range_get {α : Type} (x : Nat → α) (n i : Nat) (h : i < n) : ((List.range n).map x)[i]? = some (x i) := by
  rw [List.getElem?_map, List.getElem?_range h]; rfl
/-- A slice literal without elements. -/
theorem own_empty (w : World) (base : Nat) (e : TypeId) (h : base ≤ w.heap.size) : (w.alloc (.cells #[] e)).ownsRow base e 1 (.slice (some ⟨w.heap.size, 0, none⟩) 0 0) 0 [] := by
  refine ⟨rfl, .inr ⟨w.heap.size, 0, #[], rfl, h, ?_, Nat.le_refl _, Nat.zero_le _, rfl, rfl⟩⟩
  show (w.heap.push _)[w.heap.size]? = _
  simp

theorem own_empty' (w : World) (base : Nat) (e : TypeId) (g : Nat) (hg : g = w.heap.size) (h : base ≤ w.heap.size) : (w.alloc (.cells #[] e)).ownsRow base e 1 (.slice (some ⟨g, 0, none⟩) 0 0) 0 [] := by
  subst hg
  exact own_empty w base e h
theorem ints_of (k : IntKind) (x : Nat → Int) (n : Nat) : ∀ u ∈ (List.range n).map fun i => Value.int k (x i), u.oneCell' = true := by
  intro u hu
  obtain ⟨i, _, rfl⟩ := List.mem_map.1 hu
  rfl
theorem heap_new (w : World) (o : Obj) (b : Nat) (hb : b = w.heap.size) : (w.alloc o).heap[b]? = some o := by
  subst hb
  show (w.heap.push o)[w.heap.size]? = _
  simp
theorem cell_set_same {w : World} {b o : Nat} {x y : Value} (h : w.cell? ⟨b, o, none⟩ = some y) : (w.setCell ⟨b, o, none⟩ x).cell? ⟨b, o, none⟩ = some x := by
  unfold World.cell? at h ⊢
  simp only [World.setCell, Array.getElem?_modify]
  split at h
  · rename_i c t f hh
    simp only [hh, if_true, Option.map_some]
    simp at h ⊢
    obtain ⟨h1, _⟩ := Array.getElem?_eq_some_iff.1 h
    simp [h1]
  · cases h
theorem cell_set_far {w : World} {b b' o o' : Nat} (x : Value) (h : b' ≠ b) : (w.setCell ⟨b, o, none⟩ x).cell? ⟨b', o', none⟩ = w.cell? ⟨b', o', none⟩ :=
  World.cell?_of_block (w := w) (a := ⟨b', o', none⟩) (set_other x h)
theorem cell_set_off {w : World} {b b' o o' : Nat} (x : Value) (h : o' ≠ o) : (w.setCell ⟨b, o, none⟩ x).cell? ⟨b', o', none⟩ = w.cell? ⟨b', o', none⟩ := by
  by_cases e : b' = b
  · subst e
    unfold World.cell?
    simp only [World.setCell, Array.getElem?_modify, if_true]
    cases w.heap[b']? with
    | none => rfl
    | some ob =>
      cases ob <;> simp
      rename_i c t f
      rw [Array.getElem?_setIfInBounds_ne (Ne.symm h)]
  · exact cell_set_far x e
theorem froz_set {w : World} {p a : Addr} {x : Value} : (w.setCell p x).frozen? a = w.frozen? a := by
  unfold World.frozen?
  simp only [World.setCell, Array.getElem?_modify]
  by_cases e : p.block = a.block
  · rw [if_pos e]
    cases w.heap[a.block]? with
    | none => rfl
    | some ob => cases ob <;> rfl
  · rw [if_neg e]
/-- What three boxes hold, still. -/
structure Box3 (s : Nat) (x y z : Value) (w : World) : Prop where
  k0 : w.cell? ⟨s, 0, none⟩ = some x
  k1 : w.cell? ⟨s, 1, none⟩ = some y
  k2 : w.cell? ⟨s, 2, none⟩ = some z
  kz : ∀ o, w.frozen? ⟨s, o, none⟩ = false
  r0 : w.cell? ⟨s + 1, 0, none⟩ = some (.slice none 0 0)
  r1 : w.cell? ⟨s + 1, 1, none⟩ = some (.slice none 0 0)
  r2 : w.cell? ⟨s + 1, 2, none⟩ = some (.int .i64 0)
  rz : ∀ o, w.frozen? ⟨s + 1, o, none⟩ = false
  p0 : w.cell? ⟨s + 1 + 1, 0, none⟩ = some (.int .i64 0)
  p1 : w.cell? ⟨s + 1 + 1, 1, none⟩ = some (.int .u64 0)
  pz : ∀ o, w.frozen? ⟨s + 1 + 1, o, none⟩ = false
theorem box3 {u w w' : World} {x y z : Value} {t t' t'' : TypeId} (hu : Ext u w) (hg : ((((w.alloc (.cells #[x, y, z] t)).alloc (.cells #[.slice none 0 0, .slice none 0 0, .int .i64 0] t)).alloc (.cells #[.int .i64 0, .int .u64 0] t')).alloc (.cells #[] t'')).grownBy w' (some (w.heap.size + 3))) :
    Ext u w' ∧ Box3 w.heap.size x y z w' := by
  have hF : Fr (w.heap.size + 3) (w.heap.size + 4) ((((w.alloc (.cells #[x, y, z] t)).alloc (.cells #[.slice none 0 0, .slice none 0 0, .int .i64 0] t)).alloc (.cells #[.int .i64 0, .int .u64 0] t')).alloc (.cells #[] t'')) w' :=
    (Fr.refl _ _ _).grown hg (fun k hk => by simp at hk; omega)
  refine ⟨hF.below (ext_alloc _ (ext_alloc _ (ext_alloc _ (ext_alloc _ hu)))) (by have := hu.size; omega), ?_⟩
  have h0 : w'.heap[w.heap.size]? = some (.cells #[x, y, z] t (0, 0)) := by
    rw [hF.block _ (by simp <;> omega) (.inl (by omega)), Below.heap_alloc _ _ _ (by simp <;> omega), Below.heap_alloc _ _ _ (by simp <;> omega), Below.heap_alloc _ _ _ (by simp)]
    exact heap_new _ _ _ rfl
  have h1 : w'.heap[w.heap.size + 1]? = some (.cells #[.slice none 0 0, .slice none 0 0, .int .i64 0] t (0, 0)) := by
    rw [hF.block _ (by simp <;> omega) (.inl (by omega)), Below.heap_alloc _ _ _ (by simp <;> omega), Below.heap_alloc _ _ _ (by simp)]
    exact heap_new _ _ _ (by simp)
  have h2 : w'.heap[w.heap.size + 1 + 1]? = some (.cells #[.int .i64 0, .int .u64 0] t' (0, 0)) := by
    rw [hF.block _ (by simp) (.inl (by omega)), Below.heap_alloc _ _ _ (by simp)]
    exact heap_new _ _ _ (by simp)
  exact ⟨cell_at h0 rfl, cell_at h0 rfl, cell_at h0 rfl, fun o => free_at h0, cell_at h1 rfl, cell_at h1 rfl, cell_at h1 rfl, fun o => free_at h1, cell_at h2 rfl, cell_at h2 rfl, fun o => free_at h2⟩

/-- The boxes of the results, as they were made. -/
structure ResB (s : Nat) (w : World) : Prop where
  r0 : w.cell? ⟨s + 1, 0, none⟩ = some (.slice none 0 0)
  r1 : w.cell? ⟨s + 1, 1, none⟩ = some (.slice none 0 0)
  r2 : w.cell? ⟨s + 1, 2, none⟩ = some (.int .i64 0)
  rz : ∀ o, w.frozen? ⟨s + 1, o, none⟩ = false
  p0 : w.cell? ⟨s + 1 + 1, 0, none⟩ = some (.int .i64 0)
  p1 : w.cell? ⟨s + 1 + 1, 1, none⟩ = some (.int .u64 0)
  pz : ∀ o, w.frozen? ⟨s + 1 + 1, o, none⟩ = false
theorem ResB.ext {s : Nat} {w w' : World} (h : ResB s w) (hb : Ext w w') : ResB s w' :=
  ⟨ext_cell hb h.r0, ext_cell hb h.r1, ext_cell hb h.r2, fun o => by rw [hb.frozen (p := ⟨s + 1, o, none⟩) (cell_lt h.r0)]; exact h.rz o,
   ext_cell hb h.p0, ext_cell hb h.p1, fun o => by rw [hb.frozen (p := ⟨s + 1 + 1, o, none⟩) (cell_lt h.p0)]; exact h.pz o⟩

section
variable {b0 : Nat → Prop} {R : RL} {M : MS} {w : World}

theorem RefIn.bump {Z : World} (h : RefIn b0 R M w) (hb : Ext w Z) (r g c : Nat) (hg : b0 g) (hlt : g < Z.heap.size) (hc : ∀ i, i < M.n → Z.cell? ⟨g, i, none⟩ = some (.int .u64 (U ((M.bump r).ep i)))) :
    RefIn b0 { R with be := g, ea := some ⟨g, 0, none⟩, ec := c } (M.bump r) Z :=
  have h' := h.ext hb
  ⟨h.few, h.small, h'.top, h'.wA, fun _ => ⟨rfl, hg, hlt⟩, h'.wR, hc, h'.xA, h'.xR⟩

theorem Try.infoU64r : (Try.prog.info? 43).map (fun i => (i.zero, i.size, i.bytes)) = some (some (.int .u64 0), 1, 8) := by kernel_rfl

/-- What it comes to. -/
def RetRef (b0 : Nat → Prop) (M' : MS) (rest : Array Value) (w : World) (e : Ending) (w' : World) : Prop :=
  ∃ R' : RL, e = .returned (.tuple (#[refV R' M'] ++ rest)) ∧ RefIn b0 R' M' w' ∧ Ext w w'

set_option maxRecDepth 8000 in
set_option maxHeartbeats 400000 in
theorem rbump_no (h : RefIn b0 R M w) (r : Int) (hr : ¬ (0 ≤ r ∧ r < M.n)) :
    Calls Try.prog 17 #[refV R M, .int .i64 r] w (RetRef b0 M #[.agg #[.int .i64 0, .int .u64 0], .int .i64 1] w) := by
  have h65 := h.few
  have H := Lib.hid h
  clear h
  by_cases h0 : 0 ≤ r
  · have h1 : (M.n : Int) ≤ r := by omega
    clear hr
    unfold refV
    go_enter Try.func17, Try.ntmps17
    go_wp2
    refine bodyPost_ret (v := .tuple #[refV R M, .agg #[.int .i64 0, .int .u64 0], .int .i64 1]) (by simp [results, Try.results17, go_sem, refV]) rfl ⟨R, rfl, H.out.ext ?_, ?_⟩
    all_goals repeat (first | exact ext_refl _ | apply ext_over | apply ext_alloc | (refine ext_set _ ?_ ?_; (first | exact Nat.le_refl _ | exact Nat.le_succ _ | (simp; done))))
  · have h1 : r < 0 := by omega
    clear hr h0
    unfold refV
    go_enter Try.func17, Try.ntmps17
    go_wp2
    refine bodyPost_ret (v := .tuple #[refV R M, .agg #[.int .i64 0, .int .u64 0], .int .i64 1]) (by simp [results, Try.results17, go_sem, refV]) rfl ⟨R, rfl, H.out.ext ?_, ?_⟩
    all_goals repeat (first | exact ext_refl _ | apply ext_over | apply ext_alloc | (refine ext_set _ ?_ ?_; (first | exact Nat.le_refl _ | exact Nat.le_succ _ | (simp; done))))

set_option maxRecDepth 8000 in
set_option maxHeartbeats 1000000 in
theorem rbump_yes (h : RefIn b0 R M w) (r : Nat) (hr : r < M.n) :
    Calls Try.prog 17 #[refV R M, .int .i64 (r : Int)] w (RetRef b0 (M.bump r) #[.agg #[.int .i64 (r : Int), .int .u64 (U (M.ep r + 1#64))], .int .i64 0] w) := by
  obtain ⟨iU, hiU, hy0, hy1, hy2⟩ := info_parts Try.infoU64r
  have h65 := h.few
  have H := Lib.hid h
  have e0 := (h.eA (by omega)).1
  have l0 := (h.eA (by omega)).2.2
  unfold refV
  rw [e0]
  clear h
  go_enter Try.func17, Try.ntmps17
  go_wp2_with (at_builtin; refine wpList_append_own _ rfl (.tmp 18) (.tmp 20) 31 rfl (w.heap.size + 3) 43 iU (.int .u64 0) 1 8 Try.underlying31 hiU hy0 hy1 hy2 rfl (by decide) (.slice (some ⟨w.heap.size + 3, 0, none⟩) 0 0) 0 [] rfl (own_empty' _ _ _ _ (by simp) (by simp)) ⟨R.be, 0, none⟩ M.n R.ec ((List.range M.n).map fun i => .int .u64 (U (M.ep i))) rfl (by simp) (news_of (fun i hi => ext_cell (ext_alloc _ (ext_alloc _ (ext_alloc _ (ext_alloc _ (ext_refl w))))) (H.out.eR i hi))) (ints_of _ _ _) (by unfold maxLen; omega) (by omega) (by simp) ?_; intro v' w' hv hg hn; rw [Nat.zero_add, List.nil_append] at hv; obtain ⟨g, cap', rfl, hg3, hlt, hcl, hfz⟩ := own_row hv (by omega); have HC := Lib.hid hcl; have HG := Lib.hid (box3 (ext_refl w) hg); have HZ := Lib.hid hfz; clear hv hg hn hcl hfz; have cr := (HC.out r hr).trans (range_get _ _ _ hr); have zr := HZ.out r; have n0 : g ≠ w.heap.size := (by omega); have n1 : g ≠ w.heap.size + 1 := (by omega); have n2 : g ≠ w.heap.size + 1 + 1 := (by omega); obtain ⟨k0, k1, k2, kz, r0, r1, r2, rz, p0, p1, pz⟩ := HG.out.2)
  obtain ⟨Z, hZ⟩ : ∃ Z, Z = (w'.setCell ⟨w.heap.size, 1, none⟩ (.slice (some ⟨g, 0, none⟩) M.n cap')).setCell ⟨g, r, none⟩ (.int .u64 (U (M.ep r + 1#64))) := ⟨_, rfl⟩
  have zc : ∀ i, i < M.n → Z.cell? ⟨g, i, none⟩ = some (.int .u64 (U ((M.bump r).ep i))) := fun i hi => by
    have h1 := (HC.out i hi).trans (range_get _ _ _ hi)
    show _ = some (Value.int .u64 (U (if i = r then M.ep r + 1#64 else M.ep i)))
    by_cases e : i = r
    · subst e
      rw [hZ, if_pos rfl]
      exact cell_set_same (by rw [cell_set_far _ n0]; exact h1)
    · rw [hZ, if_neg e, cell_set_off _ e, cell_set_far _ n0]
      exact h1
  have z0 : Z.cell? ⟨w.heap.size, 0, none⟩ = some (.slice R.wa M.n R.wc) := by rw [hZ, cell_set_far _ n0.symm, cell_set_off _ (by decide)]; exact k0
  have z1 : Z.cell? ⟨w.heap.size, 1, none⟩ = some (.slice (some ⟨g, 0, none⟩) M.n cap') := by rw [hZ, cell_set_far _ n0.symm]; exact cell_set_same k1
  have z2 : Z.cell? ⟨w.heap.size, 2, none⟩ = some (.int .i64 M.ct) := by rw [hZ, cell_set_far _ n0.symm, cell_set_off _ (by decide)]; exact k2
  have hX : Ext w Z := by rw [hZ]; exact ext_set _ (by show w.heap.size ≤ g; omega) (ext_set _ (Nat.le_refl _) HG.out.1)
  have HX := Lib.hid hX
  have hgZ : g < Z.heap.size := by rw [hZ, set_size, set_size]; exact hlt
  have HR := Lib.hid (H.out.bump hX r g cap' (H.out.top g (by omega)) hgZ zc)
  have y0 : ∀ o, Z.cell? ⟨w.heap.size + 1, o, none⟩ = w'.cell? ⟨w.heap.size + 1, o, none⟩ := fun o => by rw [hZ, cell_set_far _ n1.symm, cell_set_far _ (by omega)]
  have y1 : ∀ o, Z.cell? ⟨w.heap.size + 1 + 1, o, none⟩ = w'.cell? ⟨w.heap.size + 1 + 1, o, none⟩ := fun o => by rw [hZ, cell_set_far _ n2.symm, cell_set_far _ (by omega)]
  have r0' := (y0 0).trans r0
  have r1' := (y0 1).trans r1
  have r2' := (y0 2).trans r2
  have p0' := (y1 0).trans p0
  have p1' := (y1 1).trans p1
  have rz' : ∀ o, Z.frozen? ⟨w.heap.size + 1, o, none⟩ = false := fun o => by rw [hZ, froz_set, froz_set]; exact rz o
  have pz' : ∀ o, Z.frozen? ⟨w.heap.size + 1 + 1, o, none⟩ = false := fun o => by rw [hZ, froz_set, froz_set]; exact pz o
  have l1 : w.heap.size < Z.heap.size := cell_lt z0
  have l2 : w.heap.size + 1 < Z.heap.size := cell_lt r0'
  have l3 : w.heap.size + 1 + 1 < Z.heap.size := cell_lt p0'
  have l4 : w.heap.size < w.heap.size + 1 := Nat.lt_succ_self _
  rw [← hZ]
  have HZC := Lib.hid zc
  clear hZ zc hX y0 y1 r0 r1 r2 p0 p1 rz pz k0 k1 k2 kz HG HC HZ cr zr hlt
  have E1 : Hid (∀ Y, RefIn b0 { R with be := g, ea := some ⟨g, 0, none⟩, ec := cap' } (M.bump r) Y → Calls Try.prog 32 #[.agg #[.slice R.wa M.n R.wc, .slice (some ⟨g, 0, none⟩) M.n cap', .int .i64 M.ct], .int .i64 (r : Int)] Y (Ret (.agg #[.int .i64 (r : Int), .int .u64 (U (M.ep r + 1#64))]) Y)) := by
    refine Lib.hid fun Y hY => ?_
    have := rcap_yes hY r hr
    rw [bump_ep] at this
    exact this
  have HS := Lib.hid (ResB.mk r0' r1' r2' rz' p0' p1' pz' : ResB w.heap.size Z)
  clear r0' r1' r2' rz' p0' p1' pz'
  refine wp_region_mix (fun x => ∃ s, x = off (w.heap.size + 1) (w.heap.size + 3) Z s) [(0, [0, 1, 2]), (1, [3]), (1, [4]), (1, [5]), (0, [6])] (by kernel_rfl) (by kernel_rfl) (off_of (Fr.refl _ _ Z).drew) ?_
  simp only [pieces, pickL, List.map_cons, List.map_nil, List.getD_cons_zero, List.getD_cons_succ]
  refine mix_reads ?_
  repeat (go_big_quiet_step (fail))
  refine wpQuiet_nil (mix_acts ?_)
  go_wp2_with (go_at_call 32; refine (E1.out _ (HR.out.ext (ext_drew (ext_refl Z)))).mono ?_; rintro e Y ⟨rfl, hY⟩; have HY := Lib.hid (ext_trans (ext_drew (ext_refl Z)) hY); clear hY; obtain ⟨r0, r1, r2, rz, p0, p1, pz⟩ := HS.out.ext HY.out)
  refine mixQ_mk (off_of (.of_ext HY.out)) (mix_acts ?_)
  go_wp2
  have F1 := Lib.hid (Fr.set (p := ⟨w.heap.size + 1, 2, none⟩) (.int .i64 M.ct) (Fr.set (p := ⟨w.heap.size + 1, 1, none⟩) (.slice (some ⟨g, 0, none⟩) M.n cap') (Fr.set (p := ⟨w.heap.size + 1, 0, none⟩) (.slice R.wa M.n R.wc) (Fr.of_ext (lo := w.heap.size + 1) (hi := w.heap.size + 3) HY.out) (Nat.le_refl _) (by simp)) (Nat.le_refl _) (by simp)) (Nat.le_refl _) (by simp))
  refine mixQ_mk (off_of F1.out) (mix_acts ?_)
  go_wp2
  have F2 := Lib.hid (Fr.set (p := ⟨w.heap.size + 1 + 1, 1, none⟩) (.int .u64 (U (M.ep r + 1#64))) (Fr.set (p := ⟨w.heap.size + 1 + 1, 0, none⟩) (.int .i64 (r : Int)) F1.out (by simp) (by simp)) (by simp) (by simp))
  refine mixQ_mk (off_of F2.out) (mix_reads ?_)
  repeat (go_big_quiet_step (fail))
  refine wpQuiet_nil (mix_end ?_)
  go_wp2
  have hX2 := F2.out.below HX.out (by omega)
  refine bodyPost_ret (v := .tuple #[refV { R with be := g, ea := some ⟨g, 0, none⟩, ec := cap' } (M.bump r), .agg #[.int .i64 (r : Int), .int .u64 (U (M.ep r + 1#64))], .int .i64 0]) (by simp [results, Try.results17, go_sem, refV, MS.bump, r0, r1, r2, p0, p1]) rfl ⟨_, rfl, H.out.bump hX2 r g cap' (H.out.top g (by omega)) (Nat.lt_of_lt_of_le hgZ F2.out.size) (fun i hi => ?_), hX2⟩
  rw [F2.out.cell hgZ (.inr hg3)]
  exact HZC.out i hi
end
end Go.Proofs.Ythepcnffadjeaaa
