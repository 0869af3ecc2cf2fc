/-
  Seven cells stored into a block at some place; one of two guards of a word that stays, and its step. Conditions: those of each theorem.
-/
import Derived.Test.YtkjbfhcgldgkaaaGax
import Derived.Deep.Cut
import Derived.ChangeArms
namespace Go.Proofs.Ytkjbfhcgldgkaaa
open Go Go.RowKit

def put7o (b o : Nat) (x0 x1 x2 x3 x4 x5 x6 : Value) (w : World) : World :=
  ((((((w.setCell ⟨b, o, none⟩ x0).setCell ⟨b, o + 1, none⟩ x1).setCell ⟨b, o + 2, none⟩ x2).setCell ⟨b, o + 3, none⟩ x3).setCell ⟨b, o + 4, none⟩ x4).setCell ⟨b, o + 5, none⟩ x5).setCell ⟨b, o + 6, none⟩ x6
theorem put7o_other {w : World} {b o k : Nat} (x0 x1 x2 x3 x4 x5 x6 : Value) (h : k ≠ b) : (put7o b o x0 x1 x2 x3 x4 x5 x6 w).heap[k]? = w.heap[k]? := by
  unfold put7o
  rw [set_other _ h, set_other _ h, set_other _ h, set_other _ h, set_other _ h, set_other _ h, set_other _ h]
theorem put7o_size {w : World} {b o : Nat} (x0 x1 x2 x3 x4 x5 x6 : Value) : (put7o b o x0 x1 x2 x3 x4 x5 x6 w).heap.size = w.heap.size := by
  unfold put7o
  rw [set_size, set_size, set_size, set_size, set_size, set_size, set_size]
theorem put7o_ext {u w : World} {b o : Nat} (x0 x1 x2 x3 x4 x5 x6 : Value) (h : Ext u w) (hb : u.heap.size ≤ b) : Ext u (put7o b o x0 x1 x2 x3 x4 x5 x6 w) :=
  ext_set _ hb (ext_set _ hb (ext_set _ hb (ext_set _ hb (ext_set _ hb (ext_set _ hb (ext_set _ hb h))))))
theorem put7o_mem {lo hi : Nat} {L : Lay} {M : MS} {w : World} {b o : Nat} (x0 x1 x2 x3 x4 x5 x6 : Value) (h : MemIn lo hi L M w) (hb : hi ≤ b) : MemIn lo hi L M (put7o b o x0 x1 x2 x3 x4 x5 x6 w) :=
  ((((((h.setFar _ (.inr hb)).setFar _ (.inr hb)).setFar _ (.inr hb)).setFar _ (.inr hb)).setFar _ (.inr hb)).setFar _ (.inr hb)).setFar _ (.inr hb)
theorem put7o_block {w : World} {b o : Nat} {c : Array Value} {t : TypeId} {f : Nat × Nat} (x0 x1 x2 x3 x4 x5 x6 : Value) (h : w.heap[b]? = some (.cells c t f)) :
    (put7o b o x0 x1 x2 x3 x4 x5 x6 w).heap[b]? = some (.cells (((((((c.setIfInBounds o x0).setIfInBounds (o + 1) x1).setIfInBounds (o + 2) x2).setIfInBounds (o + 3) x3).setIfInBounds (o + 4) x4).setIfInBounds (o + 5) x5).setIfInBounds (o + 6) x6) t f) :=
  set_same _ (set_same _ (set_same _ (set_same _ (set_same _ (set_same _ (set_same _ h))))))
theorem put14a {w : World} {b : Nat} {c0 c1 c2 c3 c4 c5 c6 c7 c8 c9 c10 c11 c12 c13 : Value} {t : TypeId} {f : Nat × Nat} (x0 x1 x2 x3 x4 x5 x6 : Value) (h : w.heap[b]? = some (.cells #[c0, c1, c2, c3, c4, c5, c6, c7, c8, c9, c10, c11, c12, c13] t f)) : (put7o b 0 x0 x1 x2 x3 x4 x5 x6 w).heap[b]? = some (.cells #[x0, x1, x2, x3, x4, x5, x6, c7, c8, c9, c10, c11, c12, c13] t f) := by
  rw [put7o_block _ _ _ _ _ _ _ h]
  simp only [List.setIfInBounds_toArray, List.set_cons_zero, List.set_cons_succ]
theorem put14b {w : World} {b : Nat} {c0 c1 c2 c3 c4 c5 c6 c7 c8 c9 c10 c11 c12 c13 : Value} {t : TypeId} {f : Nat × Nat} (x0 x1 x2 x3 x4 x5 x6 : Value) (h : w.heap[b]? = some (.cells #[c0, c1, c2, c3, c4, c5, c6, c7, c8, c9, c10, c11, c12, c13] t f)) : (put7o b 7 x0 x1 x2 x3 x4 x5 x6 w).heap[b]? = some (.cells #[c0, c1, c2, c3, c4, c5, c6, x0, x1, x2, x3, x4, x5, x6] t f) := by
  rw [put7o_block _ _ _ _ _ _ _ h]
  simp only [List.setIfInBounds_toArray, List.set_cons_zero, List.set_cons_succ]
theorem HIn.put7o {p : Pl} {lo hi : Nat} {L : Lay} {B : Nat} {w0 : World} {M : MS} {wr : World} (h : HIn p lo hi L B w0 M wr) {b o : Nat} (x0 x1 x2 x3 x4 x5 x6 : Value) (hb : hi ≤ b) (hw : w0.heap.size ≤ b) (hB : B ≠ b) : HIn p lo hi L B w0 M (put7o b o x0 x1 x2 x3 x4 x5 x6 wr) :=
  ⟨put7o_mem _ _ _ _ _ _ _ h.m hb, h.mg, put7o_ext _ _ _ _ _ _ _ h.ex hw, (put7o_other _ _ _ _ _ _ _ hB).trans h.pb⟩

/-- A word stays: the states that there are. -/
def GS.of (W : BitVec 64) : GS → Prop
  | .ld => True
  | .st x => x = W
  | .rl x => x = W
  | .dn x => x = W
def pgU (y : Int) (a : Acc) (fn : Value) : Value := .agg #[.int .u64 y, .int .i64 a.op, .int .i64 a.at_, .int .u64 (U a.a), .int .u64 (U a.b), fn, .pointer none]
/-- A guard of the word W at a place, in the midst. -/
structure GOne (p : Pl) (t s at_ : Int) (sh : Nat) (W : BitVec 64) (lo hi bg : Nat) (N : Nat) (g : GS) (F : Nat → Prop) (y : Int) (a : Acc) (fn : Value) (M : MS) (wr : World) : Prop where
  pt : PT kU (gdT p t s at_ sh N g) F (.agg #[.int .u64 y, .int .i64 a.op, .int .i64 a.at_, .int .u64 (U a.a), .int .u64 (U a.b), fn, .pointer none]) wr
  bn : Bnd F wr
  of : ∀ j, F j → (j < lo ∨ hi ≤ j) ∧ j ≠ bg
  fn : fn = .nilFunc ∨ ∃ g caps, fn = .func (.func g) #[] caps
  ok : GOk sh (hzW p M (3 * t + s).toNat) g
  gw : g.of W
  z : W >>> sh = 0#64 → hzW p M (3 * t + s).toNat = 0#64
  n : g.mu W 0 + 1 ≤ N
section
variable {p : Pl} {t s at_ : Int} {sh : Nat} {W : BitVec 64} {lo hi bg N : Nat} {g : GS} {F : Nat → Prop} {y : Int} {a : Acc} {fn : Value} {M M' : MS} {wr wr' : World}
theorem GOne.ext (h : GOne p t s at_ sh W lo hi bg N g F y a fn M wr) (hx : Ext wr wr') : GOne p t s at_ sh W lo hi bg N g F y a fn M wr' :=
  ⟨h.pt.agr (Agr.of_ext hx h.bn), h.bn.ext hx.size, h.of, h.fn, h.ok, h.gw, h.z, h.n⟩
theorem GOne.fr (h : GOne p t s at_ sh W lo hi bg N g F y a fn M wr) (hx : Fr lo hi wr wr') (hz : hzW p M' (3 * t + s).toNat = hzW p M (3 * t + s).toNat) : GOne p t s at_ sh W lo hi bg N g F y a fn M' wr' :=
  ⟨h.pt.agr (Agr.of_fr hx h.bn fun j hj => (h.of j hj).1), h.bn.ext hx.size, h.of, h.fn, by rw [hz]; exact h.ok, h.gw, fun e => hz.trans (h.z e), h.n⟩
theorem GOne.put7 (h : GOne p t s at_ sh W lo hi bg N g F y a fn M wr) {b : Nat} (x0 x1 x2 x3 x4 x5 x6 : Value) (hn : ¬ F b) : GOne p t s at_ sh W lo hi bg N g F y a fn M (put7 b x0 x1 x2 x3 x4 x5 x6 wr) :=
  ⟨h.pt.agr (Agr.of_put7 _ _ _ _ _ _ _ hn), h.bn.ext (by rw [put7_size]; exact Nat.le_refl _), h.of, h.fn, h.ok, h.gw, h.z, h.n⟩
theorem GOne.put7o (h : GOne p t s at_ sh W lo hi bg N g F y a fn M wr) {o : Nat} (x0 x1 x2 x3 x4 x5 x6 : Value) : GOne p t s at_ sh W lo hi bg N g F y a fn M (put7o bg o x0 x1 x2 x3 x4 x5 x6 wr) :=
  ⟨h.pt.agr fun j hj => put7o_other _ _ _ _ _ _ _ (h.of j hj).2, h.bn.ext (by rw [put7o_size]; exact Nat.le_refl _), h.of, h.fn, h.ok, h.gw, h.z, h.n⟩
end
theorem of_aft {W : BitVec 64} {sh : Nat} {g : GS} (h : g.of W) : (g.aft sh W).of W := by
  have hg : (gnx sh W).of W := by unfold gnx; split <;> rfl
  cases g with
  | ld => exact hg
  | st x => exact h
  | rl x =>
    show (if W = x then GS.dn x else gnx sh W).of W
    split
    · exact h
    · exact hg
  | dn x => exact h
/-- What a step of it comes to, whichever its state: the memory, the state, and what stands for it. -/
def RetG (p : Pl) (t s at_ : Int) (sh : Nat) (W : BitVec 64) (lo hi : Nat) (L : Lay) (M : MS) (g : GS) (F : Nat → Prop) (w : World) (e : Ending) (w' : World) : Prop :=
  ∃ (v' : Value) (F' : Nat → Prop) (M' : MS) (N' : Nat) (g' : GS) (b : Bool), e = .returned (.tuple #[v', .bool b]) ∧ PT kU (gdT p t s at_ sh N' g') F' v' w' ∧ Bnd F' w' ∧ (∀ j, F' j → F j ∨ w.heap.size ≤ j) ∧ MemIn lo hi L M' w' ∧ Fr lo hi w w' ∧
    (Mg p M' ∧ M'.wd 0 at_.toNat = W ∧ (∀ i : Nat, (i : Int) < 3 * p.t → i ≠ (3 * t + s).toNat → hzW p M' i = hzW p M i)) ∧
    (GOk sh (hzW p M' (3 * t + s).toNat) g' ∧ g'.of W ∧ (W >>> sh = 0#64 → hzW p M' (3 * t + s).toNat = 0#64) ∧ g'.mu W 0 + 1 ≤ N') ∧ (g'.mu W 0 + 1 ≤ g.mu W 0 ∨ g'.mu W 0 = 0)
theorem step_GOne {p : Pl} {t s at_ : Int} {sh : Nat} {W : BitVec 64} {lo hi bg N : Nat} {L : Lay} {g : GS} {F : Nat → Prop} {y : Int} {a : Acc} {fn : Value} {M : MS} {wr : World} (hp : p.ok) (h : GOne p t s at_ sh W lo hi bg N g F y a fn M wr) (hM : MemIn lo hi L M wr) (hG : Mg p M)
    (h0 : 0 ≤ t) (h1 : t < p.t) (h2 : 0 ≤ s) (h3 : s < 3) (ha0 : 0 ≤ at_) (ha1 : at_ < p.sizeF) (ha : ∀ i : Nat, (i : Int) < 3 * p.t → at_.toNat ≠ hzN p i) (hW : M.wd 0 at_.toNat = W) :
    Calls Try.prog 32 #[.agg #[.int .u64 y, .int .i64 a.op, .int .i64 a.at_, .int .u64 (U a.a), .int .u64 (U a.b), fn, .pointer none], .pointer (some ⟨L.bm, 0, none⟩), .agg #[.int .i64 0, .int .u64 (U 1#64)]] wr (RetG p t s at_ sh W lo hi L M g F wr) := by
  cases hd : g.isDn with
  | true =>
    obtain ⟨x, rfl⟩ : ∃ x, g = .dn x := by
      cases g with
      | dn x => exact ⟨x, rfl⟩
      | ld => cases hd
      | st z => cases hd
      | rl z => cases hd
    refine (stay_U (L := L) (M := M) (.done x) F _ 0 1#64 wr h.pt hM trivial).mono fun e w' hr => ?_
    obtain ⟨rfl, hx⟩ := hr
    exact ⟨_, F, M, N, .dn x, false, rfl, h.pt.agr (Agr.of_ext hx h.bn), h.bn.ext hx.size, fun j hj => .inl hj, hM.ext hx, .of_ext hx, ⟨hG, hW, fun _ _ _ => rfl⟩, ⟨h.ok, h.gw, h.z, h.n⟩, .inr rfl⟩
  | false =>
    obtain ⟨K, rfl⟩ : ∃ K, N = K + 1 := ⟨N - 1, by have := h.n; omega⟩
    obtain ⟨N', n1, n2, hgs, _, _⟩ := go_g hp hG h0 h1 h2 h3 ha0 ha1 sh K g hd
    have hwd := gst_words hp hG h0 h1 h2 h3 ha sh g
    have hok := gok_step hp hG h0 h1 h2 h3 ha sh g W h.ok
    have hmu := mu_step sh W 0 g hd
    rw [hW] at hgs hwd
    generalize M.done 0 (g.acc p t s at_ sh).op (g.acc p t s at_ sh).at_ (g.acc p t s at_ sh).a (g.acc p t s at_ sh).b = M' at hgs hwd hok
    obtain ⟨a', f, e1, e2, rfl, e4⟩ := hgs
    have hpt := h.pt
    rw [e1] at hpt
    refine (stepA_U a' f F _ 0 1#64 wr hpt h.bn (fun j hj => (h.of j hj).1) hM e2 _ (Lib.hid rfl)).mono fun e w' hr => ?_
    obtain ⟨v', F', rfl, q1, q2, q3, q4, q5⟩ := hr
    rw [e4] at q1
    refine ⟨v', F', _, N', _, true, rfl, q1, q2, q3, q4, q5, ⟨hwd.1.mg, hwd.2, fun i hi hne => ?_⟩, ⟨hok, of_aft h.gw, fun hz => ?_, ?_⟩, .inl hmu⟩
    · rw [hwd.1.hz i hi]
      cases g with
      | st x => simp only [hne, if_false]
      | ld => rfl
      | rl x => rfl
      | dn x => rfl
    · rw [hwd.1.hz _ (by omega)]
      cases g with
      | st x =>
        have h5 : x >>> sh ≠ 0#64 := h.ok
        have h6 : x = W := h.gw
        exact (h5 (h6 ▸ hz)).elim
      | ld => exact h.z hz
      | rl x => exact h.z hz
      | dn x => exact h.z hz
    · have := h.n
      omega
end Go.Proofs.Ytkjbfhcgldgkaaa

/-
  The law HazardStays, walked. Conditions: those of each theorem.
-/
namespace Go.Proofs.Ytkjbfhcgldgkaaa
open Go Go.RowKit

theorem w40 (x : BitVec 64) : Int.tmod (U x) 1099511627776 = U (BitVec.ofNat 64 (x.toNat % 1099511627776)) ∧ U (BitVec.ofNat 64 (x.toNat % 1099511627776)) < 1099511627776 := by
  rw [U_toNat, U_toNat, BitVec.toNat_ofNat]
  have h : (x.toNat : Int) = ((x.toNat : Nat) : Int) := rfl
  rw [Int.tmod_eq_emod_of_nonneg (by omega)]
  omega
set_option maxRecDepth 8000 in
set_option maxHeartbeats 4000000 in
theorem stays_any (p : Pl) (t s : Int) (x : BitVec 64) (w : World) : Calls Try.prog 6 #[.agg #[.int .i64 p.n, .int .i64 p.t, .int .i64 p.r, .int .i64 p.d, .int .i64 p.b, .int .i64 p.g, .int .i64 t, .int .i64 s, .int .u64 (U x)]] w (Ret (.bool true) w) := by
  go_enter Try.func6, Try.ntmps6
  go_wp2
  have hE : Ext w (w.alloc (.cells #[.int .i64 p.n, .int .i64 p.t, .int .i64 p.r, .int .i64 p.d, .int .i64 p.b, .int .i64 p.g, .int .i64 t, .int .i64 s, .int .u64 (U x)] 93)) := ext_alloc _ (ext_refl w)
  have hb : (w.alloc (.cells #[.int .i64 p.n, .int .i64 p.t, .int .i64 p.r, .int .i64 p.d, .int .i64 p.b, .int .i64 p.g, .int .i64 t, .int .i64 s, .int .u64 (U x)] 93)).heap[w.heap.size]? = some (.cells #[.int .i64 p.n, .int .i64 p.t, .int .i64 p.r, .int .i64 p.d, .int .i64 p.b, .int .i64 p.g, .int .i64 t, .int .i64 s, .int .u64 (U x)] 93) := heap_at w _ _ rfl
  generalize w.alloc (.cells #[.int .i64 p.n, .int .i64 p.t, .int .i64 p.r, .int .i64 p.d, .int .i64 p.b, .int .i64 p.g, .int .i64 t, .int .i64 s, .int .u64 (U x)] 93) = W at hE hb ⊢
  have c0 := cell_at (o := 0) hb rfl
  have c1 := cell_at (o := 1) hb rfl
  have c2 := cell_at (o := 2) hb rfl
  have c3 := cell_at (o := 3) hb rfl
  have c4 := cell_at (o := 4) hb rfl
  have c5 := cell_at (o := 5) hb rfl
  have c6 := cell_at (o := 6) hb rfl
  have c7 := cell_at (o := 7) hb rfl
  have c8 := cell_at (o := 8) hb rfl
  simp only [List.getElem_toArray, List.getElem_cons_zero, List.getElem_cons_succ] at c0 c1 c2 c3 c4 c5 c6 c7 c8
  have hlt := heap_lt hb
  replace hE := Lib.hid hE
  clear hb
  refine wp_region_mix (fun w' => ∃ s, w' = over W s) [(0, [0, 1, 2, 3, 4, 5, 6, 7]), (1, [8]), (1, [9]), (0, [10, 11, 12])] (by kernel_rfl) (by kernel_rfl) (over_of (ext_drew (ext_refl W))) ?_
  simp only [pieces, pickL, List.map_cons, List.map_nil, List.getD_cons_zero, List.getD_cons_succ]
  refine mix_reads ?_
  repeat (go_big_quiet_step (fail))
  refine wpQuiet_nil (mix_acts ?_)
  have HX := Lib.hid (ext_drew (ext_refl W))
  have hsx : W.heap.size ≤ W.drew.heap.size := Nat.le_refl _
  generalize W.drew = X at HX hsx ⊢
  go_wp2
  have HX2 := Lib.hid (ext_alloc (.cells #[.int .i64 0, .int .i64 0, .int .i64 0, .int .i64 0, .int .i64 0, .int .i64 0] 23) HX.out)
  have hbx := Lib.hid (heap_at X (.cells #[.int .i64 0, .int .i64 0, .int .i64 0, .int .i64 0, .int .i64 0, .int .i64 0] 23) X.heap.size rfl)
  generalize X.alloc (.cells #[.int .i64 0, .int .i64 0, .int .i64 0, .int .i64 0, .int .i64 0, .int .i64 0] 23) = X2 at HX2 hbx ⊢
  generalize X.heap.size = bx at hbx hsx ⊢
  refine mixQ_mk (over_of HX2.out) (mix_acts ?_)
  obtain ⟨k0, k1, k2, k3, k4, k5, kz, kl⟩ := six_of hbx.out
  have hB := put6_block (.int .i64 p.n) (.int .i64 p.t) (.int .i64 p.r) (.int .i64 p.d) (.int .i64 p.b) (.int .i64 p.g) hbx.out
  have hXX := put6_ext (b := bx) (.int .i64 p.n) (.int .i64 p.t) (.int .i64 p.r) (.int .i64 p.d) (.int .i64 p.b) (.int .i64 p.g) HX2.out hsx
  rw [put6] at hB hXX
  replace hB := Lib.hid hB
  replace hXX := Lib.hid hXX
  go_wp2
  refine mixQ_mk (over_of hXX.out) (mix_reads ?_)
  repeat (go_big_quiet_step (fail))
  refine wpQuiet_nil (mix_end ?_)
  have hB2 := hB.out
  have hXX2 := hXX.out
  clear hB hXX HX HX2 hbx k0 k1 k2 k3 k4 k5 kz kl c0 c1 c2 c3 c4 c5 c6 c7 c8
  generalize (World.setCell _ (⟨bx, 5, none⟩ : Addr) _) = Z at hXX2 hB2 ⊢
  have HE := Lib.hid (ext_trans hE.out hXX2)
  have HB := Lib.hid (show PBox bx p Z from hB2)
  have ⟨c0, c1, c2, c3, c4, c5, lt⟩ := HB.out.plc
  have hwb : w.heap.size ≤ bx := Nat.le_trans hE.out.size hsx
  clear hB2 hXX2 hE hlt hsx
  by_cases hf : FitsP p t s 0
  · have HFT := Lib.hid hf
    have HP := Lib.hid hf.2.1
    have hb0 := hf.2.2.1
    have hb1 := hf.2.2.2.1
    have hb2 := hf.2.2.2.2.1
    have hb3 := hf.2.2.2.2.2.1
    clear hf
    go_wp2_with (first
      | (go_at_call 17; refine (hwake_any _).mono ?_; rintro e w' hr; obtain ⟨rfl, sA, rfl⟩ := hr.over; clear hr)
      | (go_at_call 18; refine (fits_any p t s 0 _ true (hid_yes HFT.out)).mono ?_; rintro e w' hr; obtain ⟨rfl, sA, rfl⟩ := hr.over; clear hr)
      | (go_at_call 12; refine Hid.out ?_))
    refine Lib.hid ?_
    refine (laidZ_any p HP.out _).mono ?_
    rintro e w1 ⟨lo, hi, L, M, rfl, hM, hF, hx, hlo⟩
    have hx1 : Ext Z w1 := by
      refine ext_trans ?_ hx
      repeat (first | exact ext_refl _ | apply ext_over)
    have hlo1 : bx < lo := by
      refine Nat.lt_of_lt_of_le (Nat.lt_of_lt_of_le lt ?_) hlo
      first | exact over_size _ _ | exact Nat.le_trans (over_size _ _) (over_size _ _) | exact Nat.le_trans (over_size _ _) (Nat.le_trans (over_size _ _) (over_size _ _))
    have hhi := hM.top
    have HI := Lib.hid (HIn.mk hM hF.1.mg (ext_trans HE.out hx1) (HB.out.ext hx1))
    have HZ := Lib.hid hF.2
    clear hM hF hx hx1 hlo c0 c1 c2 c3 c4 c5 lt HB HE
    have ⟨c0, c1, c2, c3, c4, c5, lt⟩ := HI.out.pb.plc
    have hn1 := HP.out.1.1
    obtain ⟨at_, hat⟩ : ∃ a, Hid (p.fdF 0 1 = a) := ⟨_, Lib.hid rfl⟩
    have hpl := fd_place HP.out (n := 0) (f := 1) ⟨by omega, by omega⟩ (by omega) (by omega)
    rw [hat.out] at hpl
    have hat0 := hpl.1
    have hat1 := hpl.2.1
    have hat2 := Lib.hid hpl.2.2
    obtain ⟨x2, hx2⟩ : ∃ y, Hid (BitVec.ofNat 64 (x.toNat % 1099511627776) = y) := ⟨_, Lib.hid rfl⟩
    have h40 := w40 x
    rw [hx2.out] at h40
    have e40 := h40.1
    have b40 := h40.2
    have hG : ∀ W, Calls Try.prog 29 #[plV p, .int .i64 t, .int .i64 s, .int .i64 at_, .int .i64 1] W (RetP (PT kU (grdT p t s at_ 1 6)) noF W) := fun W => hguard_PT p t s at_ 1 (by omega) 6 W
    have hN : ∀ W, Calls Try.prog 34 #[.int .u64 (U x2), .int .i64 1] W (Ret (.int .i64 (U (x2 >>> 1) - 1)) W) := fun W => rnamed_any x2 1 (by omega) (by omega) W
    replace hG := Lib.hid hG
    obtain ⟨nn, hnn⟩ : ∃ y, Hid (U (x2 >>> 1) - 1 = y) := ⟨_, Lib.hid rfl⟩
    rw [hnn.out] at hN
    replace hN := Lib.hid hN
    clear hpl h40 hx2
    go_wp2_with (go_at_call 28; refine (field_is p 0 1 _ at_ hat).mono ?_; rintro e w2 ⟨rfl, hx⟩; refine Hid.out ?_)
    refine Lib.hid ?_
    have HI2 := Lib.hid (HI.out.ext hx)
    clear hx HI c0 c1 c2 c3 c4 c5 lt
    have ⟨c0, c1, c2, c3, c4, c5, lt⟩ := HI2.out.pb.plc
    go_wp2_with (go_at_call 21; refine (cap_int HI2.out.m 0 1#64 (by omega) (by rw [HI2.out.mg.n]; omega) (Lib.hid HI2.out.mg.e)).mono ?_; rintro e w3 ⟨rfl, hx3⟩; refine Hid.out ?_)
    refine Lib.hid ?_
    have HI3 := Lib.hid (HI2.out.ext hx3)
    clear hx3
    go_wp2_with (go_at_call 30; refine (do_int HI3.out.m 0 1 at_ _ _ 0 _ 1#64 x2 0#64 _ rfl rfl U_0.symm (HI3.out.mg.ok hat0 hat1 (by omega) (by omega)) (Lib.hid rfl) (Lib.hid rfl)).mono ?_; rintro e w4 ⟨rfl, hm4, hf4⟩; refine Hid.out ?_)
    refine Lib.hid ?_
    obtain ⟨M1, hM1⟩ : ∃ X, Hid (M.done 0 1 at_ x2 0#64 = X) := ⟨_, Lib.hid rfl⟩
    have hwd : ∀ j, M1.wd 0 j = if j = at_.toNat then x2 else M.wd 0 j := fun j => by rw [← hM1.out]; exact wd_store M at_ x2 0#64 j
    have hmg1 : Mg p M1 := by rw [← hM1.out]; exact HI3.out.mg.done _ _ _ _ _
    rw [hM1.out] at hm4
    have HI4 := Lib.hid (HI3.out.ran hm4 hf4 hmg1 (by omega) hlo1)
    have hxw : M1.wd 0 at_.toNat = x2 := by rw [hwd, if_pos rfl]
    have hzw : hzW p M1 (3 * t + s).toNat = 0#64 := by
      show M1.wd 0 (hzN p (3 * t + s).toNat) = _
      rw [hwd, if_neg fun h => hat2.out _ (by omega) h.symm]
      exact hz_zero HP.out HZ.out (by omega)
    replace hxw := Lib.hid hxw
    replace hzw := Lib.hid hzw
    clear hm4 hf4 hwd hmg1 hM1 HI2 HI3 HZ c0 c1 c2 c3 c4 c5 lt
    have ⟨c0, c1, c2, c3, c4, c5, lt⟩ := HI4.out.pb.plc
    go_wp2_with (go_at_call 29; refine (hG.out _).mono ?_; rintro e w5 ⟨v1, F1, rfl, hx2, hp1, hbn1, hsub1⟩; refine Hid.out ?_)
    refine Lib.hid ?_
    have HOF1 := Lib.hid (fun j (hj : F1 j) => (hsub1 j hj).elim (fun h => h.elim) fun h => (.inr (Nat.le_trans HI4.out.m.top h) : j < lo ∨ hi ≤ j))
    have HI5 := Lib.hid (HI4.out.ext hx2)
    have HP1 := Lib.hid hp1
    have HBN1 := Lib.hid hbn1
    clear hx2 hp1 hbn1 hsub1
    go_wp2_with (go_at_call 21; refine (cap_int HI5.out.m 0 1#64 (by omega) (by rw [HI5.out.mg.n]; omega) (Lib.hid HI5.out.mg.e)).mono ?_; rintro e w6 ⟨rfl, hx3⟩; refine Hid.out ?_)
    refine Lib.hid ?_
    have HI6 := Lib.hid (HI5.out.ext hx3)
    replace HP1 := Lib.hid (HP1.out.agr (Agr.of_ext hx3 HBN1.out))
    replace HBN1 := Lib.hid (HBN1.out.ext hx3.size)
    clear hx3
    go_wp2_with (go_at_call 35; refine (runGrdH p HP.out HI6.out.mg t s at_ 1 x2 hb0 hb1 hb2 hb3 hat0 hat1 hat2.out hxw.out F1 v1 w6 HP1.out HBN1.out HOF1.out HI6.out.m).mono ?_; rintro e w7 ⟨M2, c, rfl, hm7, hf7, hg7, hz7, hy7⟩; refine Hid.out ?_)
    refine Lib.hid ?_
    have HI7 := Lib.hid (HI6.out.ran hm7 hf7 hg7 (by omega) hlo1)
    have HZ7 := Lib.hid hz7
    have HY7 := Lib.hid hy7
    clear hm7 hf7 hg7 hz7 hy7 HP1 HBN1 HOF1 HI5 HI6 HI4 c0 c1 c2 c3 c4 c5 lt
    go_wp2_with (go_at_call 34; refine (hN.out _).mono ?_; rintro e w8 ⟨rfl, hx8⟩; refine Hid.out ?_)
    refine Lib.hid ?_
    have HI8 := Lib.hid (HI7.out.ext hx8)
    clear hx8 HI7
    have ⟨c0, c1, c2, c3, c4, c5, lt⟩ := HI8.out.pb.plc
    obtain ⟨hp_, hhp⟩ : ∃ a, Hid (p.hazF t s = a) := ⟨_, Lib.hid rfl⟩
    have hrg := haz_rg HP.out hb0 hb1 hb2 hb3
    have hza := hzW_at HP.out M2 hb0 hb1 hb2 hb3
    rw [hhp.out] at hrg hza
    have hr0 : (0 : Int) < M2.n := by rw [HI8.out.mg.n]; omega
    have hr1 : hp_ < M2.sz (0 : Int).toNat := by show hp_ < (M2.sz 0 : Int); rw [HI8.out.mg.s]; omega
    have hr2 := hrg.1
    by_cases hz : x2 >>> 1 = 0#64
    · have hn0 : nn = -1 := by rw [← hnn.out, hz, U_0]; rfl
      obtain ⟨hc, hh⟩ := HZ7.out hz
      have hc2 : (c : Int) = 1 := by omega
      have hpk : Hid (U (M2.wd (0 : Int).toNat hp_.toNat) = 0) := Lib.hid (by show U (M2.wd 0 hp_.toNat) = 0; rw [hza, hh, hzw.out, U_0])
      subst hn0
      rw [hc2]
      clear hc hh hc2 hza hrg HZ7 HY7 hz
      go_wp2_with (first
        | (go_at_call 27; refine (hazard_is p t s _ hp_ hhp).mono ?_; rintro e w9 ⟨rfl, hx⟩; have HI9 := Lib.hid (HI8.out.ext hx); clear hx)
        | (go_at_call 26; refine (peek_int HI9.out.m 0 hp_ 0 (by omega) hr0 hr2 hr1 hpk).mono ?_; rintro e w10 ⟨rfl, hx⟩; have HX := Lib.hid (ext_trans HI9.out.ex hx); clear hx))
      go_ret
      exact Ret.bool (by simp) HX.out
    · have hn0 : nn = U (x2 >>> 1) - 1 := hnn.out.symm
      have hpos : 0 < U (x2 >>> 1) := by
        have h0 : U (x2 >>> 1) ≠ 0 := fun h => hz (U_inj (h.trans U_0.symm))
        have h1 : 0 ≤ U (x2 >>> 1) := by rw [U_toNat]; omega
        omega
      have hle : U (x2 >>> 1) ≤ U x2 := by
        rw [U_toNat, U_toNat, BitVec.toNat_ushiftRight]
        have h := Nat.shiftRight_le x2.toNat 1
        generalize x2.toNat >>> 1 = q at h
        omega
      obtain ⟨hc, hh⟩ := HY7.out hz
      have hc2 : (c : Int) = 3 := by omega
      have hpk : Hid (U (M2.wd (0 : Int).toNat hp_.toNat) = nn + 1) := Lib.hid (by show U (M2.wd 0 hp_.toNat) = nn + 1; rw [hza, hh]; omega)
      have hnn0 : 0 ≤ nn := by omega
      have hnn1 : nn < 1099511627776 := by omega
      have hnn2 : ¬ nn < 0 := by omega
      rw [hc2]
      clear hc hh hc2 hza hrg HZ7 HY7 hz hn0 hpos hle
      go_wp2_with (first
        | (go_at_call 27; refine (hazard_is p t s _ hp_ hhp).mono ?_; rintro e w9 ⟨rfl, hx⟩; have HI9 := Lib.hid (HI8.out.ext hx); clear hx)
        | (go_at_call 26; refine (peek_int HI9.out.m 0 hp_ (nn + 1) (by omega) hr0 hr2 hr1 hpk).mono ?_; rintro e w10 ⟨rfl, hx⟩; have HX := Lib.hid (ext_trans HI9.out.ex hx); clear hx))
      go_ret
      exact Ret.bool (by simp) HX.out
  · have HFT := Lib.hid hf
    clear hf
    go_wp2_with (first
      | (go_at_call 17; refine (hwake_any _).mono ?_; rintro e w' hr; obtain ⟨rfl, sA, rfl⟩ := hr.over; clear hr)
      | (go_at_call 18; refine (fits_any p t s 0 _ false (hid_no HFT.out)).mono ?_; rintro e w' hr; obtain ⟨rfl, sA, rfl⟩ := hr.over; clear hr))
    go_ret
    exact Ret.mk (by repeat (first | exact HE.out | apply ext_over | apply ext_alloc))
end Go.Proofs.Ytkjbfhcgldgkaaa

/-
  Arguments that are slices of what holds slices, read leaf by leaf. No conditions.
-/
namespace Go.Proofs.Ytkjbfhcgldgkaaa
open Go Go.ChangeShapes Go.WideShapes Go.RowKit

/-- The type of the j-th cell, where that is a leaf of one cell. -/
def leafAt (P : Program) : Nat → TypeId → Nat → Option TypeId
  | 0, _, _ => none
  | f + 1, t, j => match P.underlying t with
    | some (.int _) => if j = 0 then some t else none
    | some .bool => if j = 0 then some t else none
    | some .string => if j = 0 then some t else none
    | some (.slice _) => if j = 0 then some t else none
    | some (.struct fs) => match fs.toList.find? fun x => decide (x.offset ≤ j) && decide (j < x.offset + P.cellsOf x.type) with
      | some x => leafAt P f x.type (j - x.offset)
      | none => none
    | _ => none

section
variable {H : Type} {enc : TypeId × Value → H} {P : Program} {w : World} {base : Nat} {held : Bool}
theorem leaf_trod : ∀ (f : Nat) {t e : TypeId} {j : Nat} {fuel : Nat} {cs : List Value} {x : DataW H × List MemPlace}, leafAt P f t j = some e → DataW.trod enc P w base (fun _ => true) held fuel t cs = some x →
    ∃ v fuel' y, cs[j]? = some v ∧ DataW.trod enc P w base (fun _ => true) held fuel' e [v] = some y
  | 0, t, e, j, fuel, cs, x, hk, h => by cases hk
  | f + 1, t, e, j, fuel, cs, x, hk, h => by
    unfold leafAt at hk
    split at hk
    · rename_i k' hu
      split at hk
      · rename_i hj
        obtain rfl : t = e := by simpa using hk
        subst hj
        obtain ⟨n, rfl, _, hw⟩ := DataW.trod_int hu h
        exact ⟨_, fuel, x, rfl, h⟩
      · cases hk
    · rename_i hu
      split at hk
      · rename_i hj
        obtain rfl : t = e := by simpa using hk
        subst hj
        obtain ⟨b, rfl, _⟩ := DataW.trod_bool hu h
        exact ⟨_, fuel, x, rfl, h⟩
      · cases hk
    · rename_i hu
      split at hk
      · rename_i hj
        obtain rfl : t = e := by simpa using hk
        subst hj
        obtain ⟨s, rfl, _⟩ := DataW.trod_string hu h
        exact ⟨_, fuel, x, rfl, h⟩
      · cases hk
    · rename_i e' hu
      split at hk
      · rename_i hj
        obtain rfl : t = e := by simpa using hk
        subst hj
        rcases Deep.open_slice hu h with ⟨rfl, _⟩ | ⟨a, len', cap', m, n, D, Pl, rfl, _⟩
        · exact ⟨_, fuel, x, rfl, h⟩
        · exact ⟨_, fuel, x, rfl, h⟩
      · cases hk
    · rename_i fs hu
      split at hk
      · rename_i y hy
        have hp := List.find?_some hy
        simp only [Bool.and_eq_true, decide_eq_true_eq] at hp
        obtain ⟨i, hi, hie⟩ := List.getElem_of_mem (List.mem_of_find?_eq_some hy)
        obtain ⟨xs, n', _, _, _, hxl, hfs⟩ := DataW.trod_struct hu h
        have hi' : i < fs.size := by simpa using hi
        have hf := hfs i y (by rw [← Array.getElem?_toList, List.getElem?_eq_getElem hi, hie])
        rw [List.getElem?_eq_getElem (by omega)] at hf
        obtain ⟨n, fuel', z, hn, hw⟩ := leaf_trod f hk hf
        refine ⟨n, fuel', z, ?_, hw⟩
        rw [List.getElem?_take] at hn
        split at hn
        · rw [List.getElem?_drop, show y.offset + (j - y.offset) = j by omega] at hn
          exact hn
        · cases hn
      · cases hk
    · cases hk

/-- The value v is a slice of n records of c leaves; x i j: the j-th of the i-th; its type T j reads there. -/
def Nv (enc : TypeId × Value → H) (P : Program) (base : Nat) (held : Bool) (c : Nat) (T : Nat → TypeId) (w : World) (v : Value) (n : Nat) (x : Nat → Nat → Value) : Prop :=
  ∃ a0 cap, v = .slice a0 n cap ∧ n ≤ cap ∧ (0 < n → ∃ b off, a0 = some ⟨b, off, none⟩ ∧ b < w.heap.size ∧
    ∀ i, i < n → ∀ j, j < c → w.cell? ⟨b, off + i * c + j, none⟩ = some (x i j) ∧ ∃ fuel y, DataW.trod enc P w base (fun _ => true) held fuel (T j) [x i j] = some y)
/-- A slice, of which one cell is known. -/
theorem nv_of_trod1 {t e : TypeId} {v : Value} {fuel : Nat} {y : DataW H × List MemPlace} (c : Nat) (T : Nat → TypeId) (ht : P.underlying t = some (.slice e)) (hc : P.cellsOf e = c) (hpos : 0 < c)
    (hk : ((List.range c).all fun j => decide (leafAt P 6 e j = some (T j))) = true) (hf : DataW.trod enc P w base (fun _ => true) held fuel t [v] = some y) : ∃ n x, Nv enc P base held c T w v n x := by
  have hk' : ∀ j, j < c → leafAt P 6 e j = some (T j) := fun j hj => of_decide_eq_true (List.all_eq_true.1 hk j (List.mem_range.2 hj))
  rcases Deep.open_slice ht hf with ⟨hcs, _⟩ | ⟨a, len, cap, m, n, D, Pl, hcs, _, hl, _, hmm, _, hi⟩
  · simp at hcs
    subst hcs
    exact ⟨0, fun _ _ => .bool false, none, 0, rfl, Nat.le_refl _, fun h => absurd h (Nat.not_lt_zero _)⟩
  · simp at hcs
    subst hcs
    simp at hmm
    have each : ∀ i j, ∃ u : Value, i < len → j < c → w.cell? ((a.add (i * c)).add j) = some u ∧ ∃ fuel y, DataW.trod enc P w base (fun _ => true) held fuel (T j) [u] = some y := fun i j => by
      by_cases hlt : i < len ∧ j < c
      · obtain ⟨cs', hcc, htr⟩ := hi i (by omega)
        rw [hc] at hcc
        obtain ⟨_, hcl, hat⟩ := World.cells?_some hcc
        obtain ⟨u, fuel', z, hy, hw⟩ := leaf_trod 6 (hk' j hlt.2) htr
        refine ⟨u, fun _ _ => ⟨?_, fuel', z, hw⟩⟩
        have h1 := hat j (by omega)
        rw [h1, hy]
      · exact ⟨.bool false, fun h1 h2 => absurd ⟨h1, h2⟩ hlt⟩
    obtain ⟨x, hg⟩ := Classical.axiomOfChoice fun i => Classical.axiomOfChoice (each i)
    by_cases hp : 0 < len
    · have h0 := (hg 0 0 hp hpos).1
      have ha : (a.add (0 * c)).add 0 = a := by unfold Addr.add; simp
      rw [ha] at h0
      have hsp := spot_none' h0
      refine ⟨len, x, some a, cap, rfl, hl, fun _ => ⟨a.block, a.off, by rw [← hsp], World.block_lt_of_cell? w a h0, fun i hi' j hj => ?_⟩⟩
      have h1 := hg i j hi' hj
      rw [hsp, add_at', add_at'] at h1
      exact h1
    · obtain rfl : len = 0 := by omega
      exact ⟨0, fun _ _ => .bool false, some a, cap, rfl, hl, fun h => absurd h (Nat.not_lt_zero _)⟩
theorem nv_of_trod {r : Reach} {b0 : Nat} {t e : TypeId} {v : Value} {d : DataW H} {p : List MemPlace} (c : Nat) (T : Nat → TypeId) (ht : P.underlying t = some (.slice e)) (hc : P.cellsOf e = c) (hpos : 0 < c)
    (hk : ((List.range c).all fun j => decide (leafAt P 6 e j = some (T j))) = true)
    (hv : Value.okWide P w r b0 t v) (h : DataW.Trod enc P w base (fun _ => true) held t v d p) : ∃ n x, Nv enc P base held c T w v n x := by
  obtain ⟨a0, len, cap, rfl⟩ := okWide_slice ht hv
  obtain ⟨fuel, hf⟩ := h
  exact nv_of_trod1 c T ht hc hpos hk (by simpa [Value.cells] using hf)
/-- A leaf that is an integer, a bool. -/
theorem leaf_int {t : TypeId} {k : IntKind} {u : Value} {fuel : Nat} {y : DataW H × List MemPlace} (ht : P.underlying t = some (.int k)) (h : DataW.trod enc P w base (fun _ => true) held fuel t [u] = some y) : ∃ n, u = .int k n ∧ (Lit.int k n).wf = true := by
  obtain ⟨n, hn, _, hw⟩ := DataW.trod_int ht h
  simp at hn
  exact ⟨n, hn, hw⟩
theorem leaf_bool {t : TypeId} {u : Value} {fuel : Nat} {y : DataW H × List MemPlace} (ht : P.underlying t = some .bool) (h : DataW.trod enc P w base (fun _ => true) held fuel t [u] = some y) : ∃ b, u = .bool b := by
  obtain ⟨b, hn, _⟩ := DataW.trod_bool ht h
  simp at hn
  exact ⟨b, hn⟩
/-- A slice of records of integers, of which all leaves are integers. -/
theorem rs_of_nv {c : Nat} {T : Nat → TypeId} {kd : Nat → IntKind} {v : Value} {n : Nat} {x : Nat → Nat → Value} (hT : ∀ j, j < c → P.underlying (T j) = some (.int (kd j))) (h : Nv enc P base held c T w v n x) : ∃ z, Rs c kd w v n z := by
  obtain ⟨a0, cap, e, hc, hr⟩ := h
  by_cases hp : 0 < n
  · obtain ⟨b, off, ea, hb, hcell⟩ := hr hp
    have each : ∀ i j, ∃ z : Int, i < n → j < c → x i j = .int (kd j) z ∧ (Lit.int (kd j) z).wf = true := fun i j => by
      by_cases hlt : i < n ∧ j < c
      · obtain ⟨_, fuel, y, hy⟩ := hcell i hlt.1 j hlt.2
        obtain ⟨z, hz, hw⟩ := leaf_int (hT j hlt.2) hy
        exact ⟨z, fun _ _ => ⟨hz, hw⟩⟩
      · exact ⟨0, fun h1 h2 => absurd ⟨h1, h2⟩ hlt⟩
    obtain ⟨z, hz⟩ := Classical.axiomOfChoice fun i => Classical.axiomOfChoice (each i)
    refine ⟨z, a0, cap, e, hc, fun _ => ⟨b, off, ea, hb, fun i hi j hj => ?_⟩⟩
    rw [(hcell i hi j hj).1, (hz i j hi hj).1]
    exact ⟨rfl, (hz i j hi hj).2⟩
  · exact ⟨fun _ _ => 0, a0, cap, e, hc, fun h => absurd h hp⟩
end
end Go.Proofs.Ytkjbfhcgldgkaaa

/-
  Slices of bools, read as lists, and the opening of such arguments. No conditions.
-/
namespace Go.Proofs.Ytkjbfhcgldgkaaa
open Go Go.ChangeShapes Go.WideShapes Go.RowKit

/-- A slice of bools. -/
def bN (l : List Bool) (i : Nat) : Bool := l.getD i false
def Bs (w : World) (v : Value) (l : List Bool) : Prop :=
  ∃ a0 cap, v = .slice a0 l.length cap ∧ l.length ≤ cap ∧ (0 < l.length → ∃ b off, a0 = some ⟨b, off, none⟩ ∧ b < w.heap.size ∧ ∀ i, i < l.length → w.cell? ⟨b, off + i, none⟩ = some (.bool (bN l i)))
theorem Bs.ext {w w' : World} {v : Value} {l : List Bool} (h : Bs w v l) (hb : Ext w w') : Bs w' v l := by
  obtain ⟨a0, cap, e, hc, hr⟩ := h
  refine ⟨a0, cap, e, hc, fun hl => ?_⟩
  obtain ⟨b, off, ea, hlt, hcell⟩ := hr hl
  exact ⟨b, off, ea, Nat.lt_of_lt_of_le hlt hb.size, fun i hi => ext_cell hb (hcell i hi)⟩
theorem Bs.at {w : World} {a0 : Option Addr} {n cap : Nat} {l : List Bool} (h : Bs w (.slice a0 n cap) l) {i : Nat} (hi : i < l.length) : ∃ b off, a0 = some ⟨b, off, none⟩ ∧ b < w.heap.size ∧ w.cell? ⟨b, off + i, none⟩ = some (.bool (bN l i)) := by
  obtain ⟨a, c, e, _, hr⟩ := h
  simp at e
  obtain ⟨rfl, rfl, rfl⟩ := e
  obtain ⟨b, off, e, hlt, hc⟩ := hr (by omega)
  exact ⟨b, off, e, hlt, hc i hi⟩
section
variable {H : Type} {enc : TypeId × Value → H} {P : Program} {w : World} {base : Nat} {held : Bool}
theorem bs_of_nv {v : Value} {n : Nat} {x : Nat → Nat → Value} {T : Nat → TypeId} (hT : P.underlying (T 0) = some .bool) (h : Nv enc P base held 1 T w v n x) : ∃ l, Bs w v l := by
  obtain ⟨a0, cap, e, hc, hr⟩ := h
  by_cases hp : 0 < n
  · obtain ⟨b, off, ea, hb, hcell⟩ := hr hp
    have each : ∀ i, ∃ z : Bool, i < n → x i 0 = .bool z := fun i => by
      by_cases hlt : i < n
      · obtain ⟨_, fuel, y, hy⟩ := hcell i hlt 0 (by omega)
        obtain ⟨z, hz⟩ := leaf_bool hT hy
        exact ⟨z, fun _ => hz⟩
      · exact ⟨false, fun h1 => absurd h1 hlt⟩
    obtain ⟨z, hz⟩ := Classical.axiomOfChoice each
    refine ⟨(List.range n).map z, a0, cap, by simpa using e, by simpa using hc, fun _ => ⟨b, off, ea, hb, fun i hi => ?_⟩⟩
    have hi' : i < n := by simpa using hi
    have h1 := (hcell i hi' 0 (by omega)).1
    rw [Nat.mul_one, Nat.add_zero, hz i hi'] at h1
    rw [h1]
    unfold bN
    rw [List.getD_eq_getElem?_getD, List.getElem?_map, List.getElem?_range hi']
    rfl
  · have : n = 0 := by omega
    subst this
    exact ⟨[], a0, cap, e, hc, fun h => absurd h (Nat.not_lt_zero _)⟩
theorem bs_of_trod {r : Reach} {b0 : Nat} {t e : TypeId} {v : Value} {d : DataW H} {p : List MemPlace} (ht : P.underlying t = some (.slice e)) (he : P.underlying e = some .bool) (hc : P.cellsOf e = 1)
    (hk : ((List.range 1).all fun j => decide (leafAt P 6 e j = some e)) = true) (hv : Value.okWide P w r b0 t v) (h : DataW.Trod enc P w base (fun _ => true) held t v d p) : ∃ l, Bs w v l := by
  obtain ⟨n, x, hn⟩ := nv_of_trod 1 (fun _ => e) ht hc (by omega) hk hv h
  exact bs_of_nv he hn
end
end Go.Proofs.Ytkjbfhcgldgkaaa
