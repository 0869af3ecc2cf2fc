/-
  What the calls of List come to. Conditions: those of each theorem.
-/
import Derived.Test.YthepcnffadjeaaaProgOwn
import Derived.Shelf.Abstract
namespace Go.Proofs.Ythepcnffadjeaaa
open Go Go.RowKit

theorem put7_fd {D : Nat → Prop} {w : World} {b : Nat} (x0 x1 x2 x3 x4 x5 x6 : Value) (hb : D b) : FD D w (put7 b x0 x1 x2 x3 x4 x5 x6 w) := by
  refine FD.of_fr (lo := b) (hi := b + 1) ?_ fun k h1 h2 => by rw [show k = b by omega]; exact hb
  have h := Nat.lt_succ_self b
  have z := Nat.le_refl b
  exact (((((((Fr.refl b (b + 1) w).set (p := ⟨b, 0, none⟩) x0 z h).set (p := ⟨b, 1, none⟩) x1 z h).set (p := ⟨b, 2, none⟩) x2 z h).set (p := ⟨b, 3, none⟩) x3 z h).set (p := ⟨b, 4, none⟩) x4 z h).set (p := ⟨b, 5, none⟩) x5 z h).set (p := ⟨b, 6, none⟩) x6 z h
def RetPL (D : Nat → Prop) (l : List Acc) (t : List (BitVec 64)) (w : World) (e : Ending) (w' : World) : Prop := ∃ v, e = .returned v ∧ Ext w w' ∧ PL D l t v w'
set_option maxRecDepth 8000 in
set_option maxHeartbeats 1000000 in
theorem listed_none (D : Nat → Prop) (t : List (BitVec 64)) (v lv : Value) (w : World) (hT : Told D w t.reverse v) (hA : AsB D w lv []) (hl : t.length ≤ 1000) (hb : ∀ k, D k → k < w.heap.size) :
    Calls Try.prog 43 #[v, lv] w (RetPL D [] t w) := by
  obtain ⟨a0, cap, rfl, _⟩ := hA
  have HT := Lib.hid hT
  obtain ⟨p, rfl⟩ := hT.ptr
  clear hT
  simp only [List.length_nil] at *
  go_enter Try.func43, Try.ntmps43
  go_wp2_with (go_at_call 48; refine (words_any D t.reverse _ _ (HT.out.ext (ext_alloc _ (ext_alloc _ (ext_alloc _ (ext_refl w))))) (by simpa using hl)).mono ?_; rintro e w' ⟨v', rfl, hu, hx⟩; obtain ⟨a1, cap1, rfl, _⟩ := id hu; have hbx := (hx.block (w.heap.size + 1 + 1) (by simp)).trans (heap_at _ _ _ (by simp)); obtain ⟨cc0, cc1, cc2, cc3, cc4, cc5, cc6, cz, ll⟩ := sev_of hbx; have HBX := Lib.hid hbx; have HU' := Lib.hid hu; have HX := Lib.hid (ext_trans (ext_alloc _ (ext_alloc _ (ext_alloc _ (ext_refl w)))) hx); clear hu hx hbx)
  clear cc0 cc1 cc2 cc3 cc4 cc5 cc6 cz ll
  have hB := put7_block (.slice a1 t.reverse.reverse.length cap1) (.int .i64 0) (.int .i64 0) (.int .u64 0) (.int .u64 0) .nilFunc (.pointer none) HBX.out
  have hX := put7_ext (b := w.heap.size + 1 + 1) (.slice a1 t.reverse.reverse.length cap1) (.int .i64 0) (.int .i64 0) (.int .u64 0) (.int .u64 0) .nilFunc (.pointer none) HX.out (by omega)
  have hF := put7_fr (w := w') (b := w.heap.size + 1 + 1) (.slice a1 t.reverse.reverse.length cap1) (.int .i64 0) (.int .i64 0) (.int .u64 0) (.int .u64 0) .nilFunc (.pointer none)
  rw [put7] at hB hX hF
  rw [List.reverse_reverse] at hB hX hF
  generalize (World.setCell _ (⟨w.heap.size + 1 + 1, 6, none⟩ : Addr) _) = Z at hB hX hF ⊢
  obtain ⟨c0, c1, c2, c3, c4, c5, c6, cz, ll⟩ := sev_of hB
  have hu := (HU'.out.fr (FD.of_fr hF fun k _ h => by simpa using h)).mono (D := D) (fun k hk => by have := hb k hk; simp; omega)
  rw [List.reverse_reverse] at hu
  exact bodyPost_ret (v := .agg #[.slice a1 t.length cap1, .int .i64 0, .int .i64 0, .int .u64 0, .int .u64 0, .nilFunc, .pointer none]) (by simp [results, Try.results43, go_sem, c0, c1, c2, c3, c4, c5, c6]) rfl ⟨_, rfl, hX, _, by unfold pV accZ; rw [U_0], hu⟩

/-- What is left behind the first. -/
theorem AsB.tail {D : Nat → Prop} {w : World} {b o cap : Nat} {a : Acc} {l : List Acc} (h : AsB D w (.slice (some ⟨b, o, none⟩) (l.length + 1) cap) (a :: l)) (v : Option Addr) (c : Nat) (hv : 0 < l.length → v = some ⟨b, o + 4, none⟩) (hc : l.length ≤ c) : AsB D w (.slice v l.length c) l := by
  obtain ⟨b', o', e, h0, hlt, hcell⟩ := h.at (by simp)
  cases e
  refine ⟨v, c, rfl, hc, fun hl => ⟨b, o + 4, hv hl, h0, hlt, fun i hi => ?_⟩⟩
  have := hcell (i + 1) (by simpa using hi)
  rw [show o + (i + 1) * 4 = o + 4 + i * 4 by omega] at this
  exact this
theorem PL.shape {D : Nat → Prop} {l : List Acc} {t : List (BitVec 64)} {v : Value} {w : World} (h : PL D l t v w) : ∃ sa n c a fn, v = pV (.slice sa n c) a fn (.pointer none) ∧ (fn = .nilFunc ∨ ∃ g caps, fn = .func (.func g) #[] caps) := by
  cases l with
  | nil => obtain ⟨rv, e, hu⟩ := h; obtain ⟨a1, c1, rfl, _⟩ := hu; exact ⟨_, _, _, _, _, e, .inl rfl⟩
  | cons a l => obtain ⟨g, caps, e, _⟩ := h; exact ⟨_, _, _, _, _, e, .inr ⟨_, _, rfl⟩⟩

set_option maxRecDepth 8000 in
set_option maxHeartbeats 1000000 in
theorem listed1 (D : Nat → Prop) (x : BitVec 64) (a : Acc) (l : List Acc) (t : List (BitVec 64)) (v lv : Value) (B1 B2 : Nat) (w : World) (hT : Told D w t.reverse v) (hA : AsB D w lv (a :: l)) (d1 : w.cell? ⟨B1, 0, none⟩ = some v) (d2 : w.cell? ⟨B2, 0, none⟩ = some lv)
    (hl : t.length + l.length ≤ 999) (hb : ∀ k, D k → k < w.heap.size)
    (IH : Hid (∀ (D : Nat → Prop) (t : List (BitVec 64)) v lv w, Told D w t.reverse v → AsB D w lv l → t.length + l.length ≤ 1000 → (∀ k, D k → k < w.heap.size) → Calls Try.prog 43 #[v, lv] w (RetPL D l t w))) :
    Calls Try.prog 49 #[.int .u64 (U x), .pointer (some ⟨B1, 0, none⟩), .pointer (some ⟨B2, 0, none⟩)] w (RetPL D l (t ++ [x]) w) := by
  have HA := Lib.hid hA
  obtain ⟨a0, cap, rfl, hc, _⟩ := hA
  obtain ⟨b, o, rfl, hb', hlt, hcell⟩ := HA.out.at (by simp)
  have HT := Lib.hid hT
  obtain ⟨p, rfl⟩ := hT.ptr
  have l1 := cell_lt d1
  have l2 := cell_lt d2
  clear hT hcell
  have l1' : B1 < w.heap.size + 1 := by omega
  have l2' : B2 < w.heap.size + 1 := by omega
  simp only [List.length_cons] at hc d2
  have HA' : Hid (AsB D w (.slice (some ⟨b, o, none⟩) (l.length + 1) cap) (a :: l)) := HA
  clear HA
  go_enter Try.func49, Try.ntmps49
  go_wp2
  generalize hW : w.alloc _ = W
  refine wp_region_mix (fun w' => ∃ s, w' = over W s) [(0, [0, 1, 4, 5]), (1, [2]), (1, [3]), (1, [6]), (2, [7])] (by kernel_rfl) (by kernel_rfl) (over_of (ext_drew (ext_refl W))) ?_
  simp only [pieces, pickL, List.map_cons, List.map_nil, List.getD_cons_zero, List.getD_cons_succ]
  refine mix_reads ?_
  have k1 : W.cell? ⟨B1, 0, none⟩ = some (.pointer p) := by rw [← hW]; exact ext_cell (ext_alloc _ (ext_refl w)) d1
  have k2 : W.cell? ⟨B2, 0, none⟩ = some (.slice (some ⟨b, o, none⟩) (l.length + 1) cap) := by rw [← hW]; exact ext_cell (ext_alloc _ (ext_refl w)) d2
  have m1 := cell_lt k1
  have m2 := cell_lt k2
  repeat (go_big_quiet_step (fail))
  have hva : ∃ va, va = (if cap = 1 then some (⟨b, o, none⟩ : Addr) else some ⟨b, o + 4, none⟩) ∧ (0 < l.length → va = some ⟨b, o + 4, none⟩) := ⟨_, rfl, fun h => if_neg (by omega)⟩
  obtain ⟨va, eva, hva⟩ := hva
  rw [← eva]
  clear eva
  have HV : Hid (AsB D w (.slice va l.length (cap - 1)) l) := Lib.hid (HA'.out.tail va (cap - 1) hva (by omega))
  clear hva HA'
  have HW : Hid (Ext w W) := Lib.hid (by rw [← hW]; exact ext_alloc _ (ext_refl w))
  have hB : W.heap[w.heap.size]? = some (.cells #[.slice none 0 0, .int .i64 0, .int .i64 0, .int .u64 0, .int .u64 0, .nilFunc, .pointer none] 87) := by rw [← hW]; exact heap_alloc_new _ _
  have HB := Lib.hid hB
  clear hB hW d1 d2 k1 k2 m1 m2
  refine wpQuiet_nil (mix_acts ?_)
  go_wp2
  refine mixQ_mk (over_of (ext_alloc _ (ext_drew (ext_refl W)))) (mix_acts ?_)
  have HU : Hid (Us (W.drew.alloc (.cells #[.int .u64 (U x)] 43)) (.slice (some ⟨W.heap.size, 0, none⟩) 1 1) [x]) := by
    have h0 := heap_at W.drew (.cells #[.int .u64 (U x)] 43) W.heap.size rfl
    refine Lib.hid ⟨_, 1, rfl, Nat.le_refl _, fun _ => ⟨_, 0, rfl, by simp, fun i hi => ?_⟩⟩
    have : i = 0 := by simpa using hi
    subst this
    exact cell_at h0 rfl
  have hb1 : ∀ k, (D k ∨ k = w.heap.size) → k < W.heap.size := fun k hk => by
    have := heap_lt HB.out
    rcases hk with hk | rfl
    · have := hb k hk; omega
    · exact this
  have HT1' : Hid (Told (fun k => D k ∨ k = w.heap.size) (W.drew.alloc (.cells #[.int .u64 (U x)] 43)) t.reverse (.pointer p)) := Lib.hid (((HT.out.more (fun k hk h => h.resolve_right (Nat.ne_of_lt hk))).ext HW.out).ext (ext_alloc (.cells #[.int .u64 (U x)] 43) (ext_drew (ext_refl W))))
  have HV' : Hid (AsB (fun k => D k ∨ k = w.heap.size) w (.slice va l.length (cap - 1)) l) := Lib.hid (HV.out.more (fun k hk h => h.resolve_right (Nat.ne_of_lt hk)))
  go_wp2_with (go_at_call 50; refine (with_any (fun k => D k ∨ k = w.heap.size) [x] t.reverse _ _ _ HT1'.out HU.out (by simp) (fun k hk => by have := hb1 k hk; simp; omega)).mono ?_; rintro e w1 ⟨v1, rfl, ht, hx⟩; have HT2 := Lib.hid ht; have HX1 := Lib.hid (ext_trans (ext_alloc _ (ext_drew (ext_refl W))) hx); obtain ⟨p1, rfl⟩ := ht.ptr; clear ht hx)
  refine mixQ_mk (over_of HX1.out) (mix_acts ?_)
  have HV2 := Lib.hid ((HV'.out.ext HW.out).ext HX1.out)
  have HT3 : Hid (Told (fun k => D k ∨ k = w.heap.size) w1 (t ++ [x]).reverse (.pointer p1)) := by
    rw [List.reverse_append]
    exact HT2
  have hb2 : ∀ k, (D k ∨ k = w.heap.size) → k < w1.heap.size := fun k hk => Nat.lt_of_lt_of_le (hb1 k hk) HX1.out.size
  go_wp2_with (go_at_call 43; refine (IH.out (fun k => D k ∨ k = w.heap.size) (t ++ [x]) _ _ _ HT3.out HV2.out (by simp; omega) hb2).mono ?_; rintro e w2 ⟨v2, rfl, hx, hp⟩; have HP := Lib.hid hp; have HX2 := Lib.hid (ext_trans HX1.out hx); obtain ⟨sa, n, c, a', fn, rfl, hfn⟩ := hp.shape; have HFN := Lib.hid hfn; clear hp hx hfn)
  refine mixQ_mk (over_of HX2.out) (mix_late ?_)
  have hbx := (HX2.out.block w.heap.size (heap_lt HB.out)).trans HB.out
  obtain ⟨cc0, cc1, cc2, cc3, cc4, cc5, cc6, cz, ll⟩ := sev_of hbx
  have HBX := Lib.hid hbx
  clear hbx
  have HE := Lib.hid (ext_trans HW.out HX2.out)
  have hX := put7_ext (b := w.heap.size) (.slice sa n c) (.int .i64 a'.op) (.int .i64 a'.at_) (.int .u64 (U a'.a)) (.int .u64 (U a'.b)) fn (.pointer none) HE.out (Nat.le_refl _)
  have hB := put7_block (.slice sa n c) (.int .i64 a'.op) (.int .i64 a'.at_) (.int .u64 (U a'.a)) (.int .u64 (U a'.b)) fn (.pointer none) HBX.out
  have hP := PL.mono (D := D) (fun k hk => .inl hk) (HP.out.fr (put7_fd (w := w2) (b := w.heap.size) (.slice sa n c) (.int .i64 a'.op) (.int .i64 a'.at_) (.int .u64 (U a'.a)) (.int .u64 (U a'.b)) fn (.pointer none) (.inr rfl)))
  rw [put7] at hB hX hP
  have HB2 := Lib.hid hB
  have HX3 := Lib.hid hX
  have HP3 := Lib.hid hP
  clear hB hX hP HP
  unfold pV at HP3 ⊢
  rcases HFN.out with rfl | ⟨g, caps, rfl⟩
  all_goals
    go_wp2
    refine lateQ_mk (fun _ => True) trivial (mix_end ?_)
    clear cc0 cc1 cc2 cc3 cc4 cc5 cc6 cz ll
    replace HB2 := HB2.out
    replace HX3 := HX3.out
    replace HP3 := HP3.out
    generalize (World.setCell _ (⟨w.heap.size, 6, none⟩ : Addr) _) = Z at HB2 HX3 HP3 ⊢
    obtain ⟨c0, c1, c2, c3, c4, c5, c6, cz, ll⟩ := sev_of HB2
    replace HX3 := Lib.hid HX3
    replace HP3 := Lib.hid HP3
    clear HB2
    go_wp2
    exact bodyPost_ret (by simp only [results, Try.results49, go_sem]; simp [go_sem, c0, c1, c2, c3, c4, c5, c6]) rfl ⟨_, rfl, HX3.out, HP3.out⟩

set_option maxRecDepth 8000 in
set_option maxHeartbeats 1000000 in
theorem listed_some (D : Nat → Prop) (a : Acc) (l : List Acc) (t : List (BitVec 64)) (v lv : Value) (w : World) (hT : Told D w t.reverse v) (hA : AsB D w lv (a :: l)) (hl : t.length + l.length ≤ 999) (hb : ∀ k, D k → k < w.heap.size)
    (IH : Hid (∀ (D : Nat → Prop) (t : List (BitVec 64)) v lv w, Told D w t.reverse v → AsB D w lv l → t.length + l.length ≤ 1000 → (∀ k, D k → k < w.heap.size) → Calls Try.prog 43 #[v, lv] w (RetPL D l t w))) :
    Calls Try.prog 43 #[v, lv] w (RetPL D (a :: l) t w) := by
  have HA := Lib.hid hA
  obtain ⟨a0, cap, rfl, hc, _⟩ := hA
  obtain ⟨b, o, rfl, hb', hlt, hcell⟩ := HA.out.at (by simp)
  obtain ⟨c0, c1, c2, c3⟩ := hcell 0 (by simp)
  rw [Nat.zero_mul, Nat.add_zero] at c0 c1 c2 c3
  have ea : aN (a :: l) 0 = a := rfl
  rw [ea] at c0 c1 c2 c3
  clear ea
  have hlt1 : b < w.heap.size + 1 := by omega
  have hlt2 : b < w.heap.size + 1 + 1 := by omega
  have HT := Lib.hid hT
  obtain ⟨p, rfl⟩ := hT.ptr
  clear hT hcell
  have HE : Hid (∀ args w, (callFunc 49 args).run Try.prog w = .ok (.enter 49 args) w) := Lib.hid (enters_of Try.func49 (by kernel_rfl) rfl)
  go_enter Try.func43, Try.ntmps43
  go_wp2
  have hX : ∀ o3, Ext w (((w.alloc (.cells #[.pointer p] 111)).alloc (.cells #[.slice (some ⟨b, o, none⟩) (l.length + 1) cap] 40)).alloc o3) := fun o3 => ext_alloc _ (ext_alloc _ (ext_alloc _ (ext_refl w)))
  have hD1 : ¬ D w.heap.size := fun h => Nat.lt_irrefl _ (hb _ h)
  have hD2 : ¬ D (w.heap.size + 1) := fun h => by have := hb _ h; omega
  refine bodyPost_ret (v := pV (.slice none 0 0) a (.func (.func 49) #[] #[.pointer (some ⟨w.heap.size, 0, none⟩), .pointer (some ⟨w.heap.size + 1, 0, none⟩)]) (.pointer none)) (by simp [results, Try.results43, go_sem, pV]) rfl ⟨_, rfl, hX _, _, _, rfl, HE.out, fun E hE x w' hf hs => ?_⟩
  have e1 := heap_at w (.cells #[.pointer p] 111) w.heap.size rfl
  have e2 := heap_at (w.alloc (.cells #[.pointer p] 111)) (.cells #[.slice (some ⟨b, o, none⟩) (l.length + 1) cap] 40) (w.heap.size + 1) (by simp)
  have hE1 : ¬ E w.heap.size := fun h => hD1 ((hE _ (by simp; omega)).1 h)
  have hE2 : ¬ E (w.heap.size + 1) := fun h => hD2 ((hE _ (by simp)).1 h)
  have d1 : w'.cell? ⟨w.heap.size, 0, none⟩ = some (.pointer p) := by
    rw [hf.cell (by simp; omega) hE1]
    exact ext_cell (ext_alloc _ (ext_alloc _ (ext_refl _))) (cell_at e1 rfl)
  have d2 : w'.cell? ⟨w.heap.size + 1, 0, none⟩ = some (.slice (some ⟨b, o, none⟩) (l.length + 1) cap) := by
    rw [hf.cell (by simp) hE2]
    exact ext_cell (ext_alloc _ (ext_refl _)) (cell_at e2 rfl)
  exact listed1 E x a l t _ _ w.heap.size (w.heap.size + 1) w' (((HT.out.ext (hX _)).more fun k hk h => (hE k hk).1 h).fr hf) (((HA.out.ext (hX _)).more fun k hk h => (hE k hk).1 h).fr hf) d1 d2 hl hs IH

theorem listed_any : ∀ (l : List Acc) (D : Nat → Prop) (t : List (BitVec 64)) (v lv : Value) (w : World), Told D w t.reverse v → AsB D w lv l → t.length + l.length ≤ 1000 → (∀ k, D k → k < w.heap.size) → Calls Try.prog 43 #[v, lv] w (RetPL D l t w)
  | [], D, t, v, lv, w, hT, hA, hl, hb => listed_none D t v lv w hT hA (by simpa using hl) hb
  | a :: l, D, t, v, lv, w, hT, hA, hl, hb => listed_some D a l t v lv w hT hA (by simp at hl; omega) hb (Lib.hid (listed_any l))

set_option maxRecDepth 8000 in
set_option maxHeartbeats 1000000 in
theorem list_any (D : Nat → Prop) (l : List Acc) (lv : Value) (w : World) (hA : AsB (fun _ => False) w lv l) (hl : l.length ≤ 1000) (hb : ∀ k, D k → k < w.heap.size) :
    Calls Try.prog 28 #[lv] w (RetPL D l [] w) := by
  have HA := Lib.hid hA
  obtain ⟨a0, cap, rfl, hc, _⟩ := hA
  have hbD : ∀ k, (D k ∨ k = w.heap.size) → k < w.heap.size + 1 := fun k hk => by
    rcases hk with hk | rfl
    · have := hb k hk; omega
    · omega
  go_enter Try.func28, Try.ntmps28
  go_wp2_with (first
    | (go_at_call 29; refine (cloneA_any (fun k => D k ∨ k = w.heap.size) l _ _ (HA.out.ext (ext_alloc _ (ext_refl w))) hl (fun k hk => by simpa using hbD k hk)).mono ?_; rintro e w1 ⟨v1, rfl, ha, hx⟩; have HA1 := Lib.hid ha; have HX1 := Lib.hid hx; clear ha hx)
    | (go_at_call 43; refine (listed_any l (fun k => D k ∨ k = w.heap.size) [] _ _ _ rfl HA1.out (by simpa using hl) (fun k hk => by have := HX1.out.size; simp at this; have := hbD k hk; omega)).mono ?_; rintro e w2 ⟨v2, rfl, hx, hp⟩; have HP := Lib.hid hp; have HX2 := Lib.hid (ext_trans HX1.out hx); obtain ⟨sa, n, c, a', fn, rfl, hfn⟩ := hp.shape; have HFN := Lib.hid hfn; clear hp hx hfn; refine Hid.out ?_))
  refine Lib.hid ?_
  have hbx := (HX2.out.block w.heap.size (by simp)).trans (heap_at w _ _ rfl)
  obtain ⟨cc0, cc1, cc2, cc3, cc4, cc5, cc6, cz, ll⟩ := sev_of hbx
  have HBX := Lib.hid hbx
  clear hbx
  have HE := Lib.hid (ext_trans (ext_alloc _ (ext_refl w)) HX2.out)
  have hX := put7_ext (b := w.heap.size) (.slice sa n c) (.int .i64 a'.op) (.int .i64 a'.at_) (.int .u64 (U a'.a)) (.int .u64 (U a'.b)) fn (.pointer none) HE.out (Nat.le_refl _)
  have hB := put7_block (.slice sa n c) (.int .i64 a'.op) (.int .i64 a'.at_) (.int .u64 (U a'.a)) (.int .u64 (U a'.b)) fn (.pointer none) HBX.out
  have hP := PL.mono (D := D) (fun k hk => .inl hk) (HP.out.fr (put7_fd (w := w2) (b := w.heap.size) (.slice sa n c) (.int .i64 a'.op) (.int .i64 a'.at_) (.int .u64 (U a'.a)) (.int .u64 (U a'.b)) fn (.pointer none) (.inr rfl)))
  rw [put7] at hB hX hP
  have HB2 := Lib.hid hB
  have HX3 := Lib.hid hX
  have HP3 := Lib.hid hP
  clear hB hX hP HP
  unfold pV at HP3 ⊢
  rcases HFN.out with rfl | ⟨g, caps, rfl⟩
  all_goals
    go_wp2
    clear cc0 cc1 cc2 cc3 cc4 cc5 cc6 cz ll
    replace HB2 := HB2.out
    replace HX3 := HX3.out
    replace HP3 := HP3.out
    generalize (World.setCell _ (⟨w.heap.size, 6, none⟩ : Addr) _) = Z at HB2 HX3 HP3 ⊢
    obtain ⟨c0, c1, c2, c3, c4, c5, c6, cz, ll⟩ := sev_of HB2
    exact bodyPost_ret (by simp only [results, Try.results28, go_sem]; simp [go_sem, c0, c1, c2, c3, c4, c5, c6]) rfl ⟨_, rfl, HX3, HP3⟩

end Go.Proofs.Ythepcnffadjeaaa
