/-
  What the calls of own, Done and Over come to, of the programs that come to a word, a bool, None. No conditions but those of each theorem.
-/
import Derived.Test.YtpidmbclgfnekaaGae
import Derived.Laws.Tables
namespace Go.Proofs.Ytpidmbclgfnekaa
open Go Go.RowKit

/-- Six cells are laid anew. -/
def put6 (b : Nat) (x0 x1 x2 x3 x4 x5 : Value) (w : World) : World :=
  ((((((w.setCell ⟨b, 0, none⟩ x0).setCell ⟨b, 1, none⟩ x1).setCell ⟨b, 2, none⟩ x2).setCell ⟨b, 3, none⟩ x3).setCell ⟨b, 4, none⟩ x4).setCell ⟨b, 5, none⟩ x5)
theorem put6_ext {u w : World} {b : Nat} (x0 x1 x2 x3 x4 x5 : Value) (h : Ext u w) (hb : u.heap.size ≤ b) : Ext u (put6 b x0 x1 x2 x3 x4 x5 w) :=
  ext_set _ hb (ext_set _ hb (ext_set _ hb (ext_set _ hb (ext_set _ hb (ext_set _ hb h)))))
theorem put6_block {w : World} {b : Nat} {c0 c1 c2 c3 c4 c5 : Value} {t : TypeId} {f : Nat × Nat} (x0 x1 x2 x3 x4 x5 : Value) (h : w.heap[b]? = some (.cells #[c0, c1, c2, c3, c4, c5] t f)) :
    (put6 b x0 x1 x2 x3 x4 x5 w).heap[b]? = some (.cells #[x0, x1, x2, x3, x4, x5] t f) := by
  have h0 := set_same (o := 0) x0 h
  have h1 := set_same (o := 1) x1 h0
  have h2 := set_same (o := 2) x2 h1
  have h3 := set_same (o := 3) x3 h2
  have h4 := set_same (o := 4) x4 h3
  have h5 := set_same (o := 5) x5 h4
  unfold put6
  rw [h5]
  simp
theorem put6_other {w : World} {b k : Nat} (x0 x1 x2 x3 x4 x5 : Value) (h : k ≠ b) : (put6 b x0 x1 x2 x3 x4 x5 w).heap[k]? = w.heap[k]? := by
  unfold put6
  rw [set_other _ h, set_other _ h, set_other _ h, set_other _ h, set_other _ h, set_other _ h]
theorem put6_size {w : World} {b : Nat} (x0 x1 x2 x3 x4 x5 : Value) : (put6 b x0 x1 x2 x3 x4 x5 w).heap.size = w.heap.size := by
  unfold put6
  rw [set_size, set_size, set_size, set_size, set_size, set_size]
theorem put6_frNew {lo hi : Nat} {a w : World} {b : Nat} (x0 x1 x2 x3 x4 x5 : Value) (h : Fr lo hi a w) (hb : a.heap.size ≤ b) : Fr lo hi a (put6 b x0 x1 x2 x3 x4 x5 w) :=
  (((((h.setNew (p := ⟨b, 0, none⟩) x0 hb).setNew (p := ⟨b, 1, none⟩) x1 hb).setNew (p := ⟨b, 2, none⟩) x2 hb).setNew (p := ⟨b, 3, none⟩) x3 hb).setNew (p := ⟨b, 4, none⟩) x4 hb).setNew (p := ⟨b, 5, none⟩) x5 hb
theorem put6_mem {lo hi : Nat} {L : Lay} {M : MS} {w : World} {b : Nat} (x0 x1 x2 x3 x4 x5 : Value) (h : MemIn lo hi L M w) (hb : hi ≤ b) : MemIn lo hi L M (put6 b x0 x1 x2 x3 x4 x5 w) :=
  (((((h.setFar (p := ⟨b, 0, none⟩) x0 (.inr hb)).setFar (p := ⟨b, 1, none⟩) x1 (.inr hb)).setFar (p := ⟨b, 2, none⟩) x2 (.inr hb)).setFar (p := ⟨b, 3, none⟩) x3 (.inr hb)).setFar (p := ⟨b, 4, none⟩) x4 (.inr hb)).setFar (p := ⟨b, 5, none⟩) x5 (.inr hb)
/-- A function that comes, by the word that is told, to a program that is over. -/
def FnX (D : Nat → Prop) (fn : Value) (G : BitVec 64 → Value) (w : World) : Prop := ∃ g caps, fn = .func (.func g) #[] caps ∧ (∀ args w, (callFunc g args).run Try.prog w = .ok (.enter g args) w) ∧ ∀ (x : BitVec 64) (w' : World), FD D w w' → Calls Try.prog g (#[.int .u64 (U x)] ++ caps) w' (Ret (G x) w')
structure Six (b : Nat) (x0 x1 x2 x3 x4 x5 : Value) (w : World) : Prop where
  c0 : w.cell? ⟨b, 0, none⟩ = some x0
  c1 : w.cell? ⟨b, 1, none⟩ = some x1
  c2 : w.cell? ⟨b, 2, none⟩ = some x2
  c3 : w.cell? ⟨b, 3, none⟩ = some x3
  c4 : w.cell? ⟨b, 4, none⟩ = some x4
  c5 : w.cell? ⟨b, 5, none⟩ = some x5
  cz : ∀ o, w.frozen? ⟨b, o, none⟩ = false
  lt : b < w.heap.size
theorem shape00 {w : World} {b : Nat} {c : Array Value} {t : TypeId} {f : Nat × Nat} (h : w.heap[b]? = some (.cells c t f)) : w.shape? b = some (t, c.size) := by
  simp [World.shape?, h]
theorem part00 {w : World} {b : Nat} {c : Array Value} {f : Nat × Nat} (h : w.heap[b]? = some (.cells c 58 f)) : (partAt ⟨b, 0, none⟩ 0 0).run Try.prog w = .ok ⟨b, 0, none⟩ w := by
  have h0 := shape00 h
  have h1 : (Try.prog.cellsOf 58) = 6 := by kernel_rfl
  have h2 : byteOfCell Try.prog Try.prog.depth 58 0 = some 0 := by kernel_rfl
  simp [partAt, byteOf, noView, viewAt, h0, h1, h2, run_program]
theorem six_of {w : World} {b : Nat} {x0 x1 x2 x3 x4 x5 : Value} {t : TypeId} (h : w.heap[b]? = some (.cells #[x0, x1, x2, x3, x4, x5] t (0, 0))) : Six b x0 x1 x2 x3 x4 x5 w :=
  ⟨cell_at h rfl, cell_at h rfl, cell_at h rfl, cell_at h rfl, cell_at h rfl, cell_at h rfl, fun _ => free_at h, (Array.getElem?_eq_some_iff.1 h).1⟩


theorem fnU : Try.prog.underlying 92 = some (.func #[33] #[94] false) := by kernel_rfl
set_option maxRecDepth 8000 in
set_option maxHeartbeats 1000000 in
theorem ownU (x : Int) (w : World) : Calls Try.prog 79 #[.int .u64 x] w (Ret (.int .u64 x) w) := by
  have ta : ∀ v w, (Instr.typeAssert (.iface 138 v) 20 128 true).run Try.prog w = .ok (.tuple #[.pointer none, .bool false]) w := fun v w => assert_no _ v w (by decide)
  go_enter Try.func79, Try.ntmps79
  go_wp2
  go_ret
  exact Ret.mk (by repeat (first | exact ext_refl _ | apply ext_alloc))

set_option maxRecDepth 8000 in
set_option maxHeartbeats 1000000 in
theorem doneU (x : Int) (w : World) : Calls Try.prog 80 #[.int .u64 x] w (Ret (.agg #[.int .u64 x, .int .i64 0, .int .i64 0, .int .u64 0, .int .u64 0, .nilFunc, .pointer none]) w) := by
  go_enter Try.func80, Try.ntmps80
  go_wp2_with (go_at_call 79; refine (ownU x _).mono ?_; rintro e w' ⟨rfl, hx⟩; refine Hid.out ?_)
  refine Lib.hid ?_
  have hblk := (hx.block (w.heap.size) (by simp)).trans (heap_at w _ _ (by simp))
  have hE : Ext w w' := by
    refine ext_trans ?_ hx
    repeat (first | exact ext_refl _ | apply ext_alloc)
  have hX := put7_ext (b := w.heap.size) (.int .u64 x) (.int .i64 0) (.int .i64 0) (.int .u64 0) (.int .u64 0) (.nilFunc) (.pointer none) hE (by omega)
  have hB := put7_block (.int .u64 x) (.int .i64 0) (.int .i64 0) (.int .u64 0) (.int .u64 0) (.nilFunc) (.pointer none) hblk
  obtain ⟨c0, c1, c2, c3, c4, c5, c6, cz, ll⟩ := sev_of hblk
  rw [put7] at hX hB
  have HX := Lib.hid hX
  have HB := Lib.hid hB
  clear hX hB hx hE hblk
  go_wp2
  replace HX := HX.out
  replace HB := HB.out
  clear c0 c1 c2 c3 c4 c5 c6 cz ll
  generalize (World.setCell _ (⟨w.heap.size, 6, none⟩ : Addr) _) = Z at HB HX ⊢
  obtain ⟨c0, c1, c2, c3, c4, c5, c6, cz, ll⟩ := sev_of HB
  exact bodyPost_ret (by simp only [results, Try.results80, go_sem]; simp [go_sem, c0, c1, c2, c3, c4, c5, c6]) rfl (Ret.mk HX)

set_option maxRecDepth 8000 in
set_option maxHeartbeats 1000000 in
theorem overYU (x : Int) (a1 a2 a3 a4 : Int) (w : World) : Calls Try.prog 62 #[.agg #[.int .u64 x, .int .i64 a1, .int .i64 a2, .int .u64 a3, .int .u64 a4, .nilFunc, .pointer none]] w (Ret (.tuple #[.int .u64 x, .bool true]) w) := by
  have n0 : ∀ w, (binOp .neq 92 .nilFunc .nilFunc).run Try.prog w = .ok (.bool false) w := fun w => neq_nil w fnU
  go_enter Try.func62, Try.ntmps62
  go_wp2_with (go_at_call 79; refine (ownU x _).mono ?_; rintro e w' ⟨rfl, hx⟩; have HX := Lib.hid hx; clear hx)
  exact bodyPost_ret (v := .tuple #[.int .u64 x, .bool true]) (by simp [results, Try.results62, go_sem]) rfl (Ret.mk (by first | exact ext_trans (ext_alloc _ (ext_refl w)) HX.out | exact ext_trans (ext_alloc _ (ext_alloc _ (ext_refl w))) HX.out))

theorem fnB : Try.prog.underlying 120 = some (.func #[33] #[122] false) := by kernel_rfl
set_option maxRecDepth 8000 in
set_option maxHeartbeats 1000000 in
theorem ownB (x : Bool) (w : World) : Calls Try.prog 89 #[.bool x] w (Ret (.bool x) w) := by
  have ta : ∀ v w, (Instr.typeAssert (.iface 140 v) 20 128 true).run Try.prog w = .ok (.tuple #[.pointer none, .bool false]) w := fun v w => assert_no _ v w (by decide)
  go_enter Try.func89, Try.ntmps89
  go_wp2
  go_ret
  exact Ret.mk (by repeat (first | exact ext_refl _ | apply ext_alloc))

set_option maxRecDepth 8000 in
set_option maxHeartbeats 1000000 in
theorem doneB (x : Bool) (w : World) : Calls Try.prog 85 #[.bool x] w (Ret (.agg #[.bool x, .int .i64 0, .int .i64 0, .int .u64 0, .int .u64 0, .nilFunc, .pointer none]) w) := by
  go_enter Try.func85, Try.ntmps85
  go_wp2_with (go_at_call 89; refine (ownB x _).mono ?_; rintro e w' ⟨rfl, hx⟩; refine Hid.out ?_)
  refine Lib.hid ?_
  have hblk := (hx.block (w.heap.size) (by simp)).trans (heap_at w _ _ (by simp))
  have hE : Ext w w' := by
    refine ext_trans ?_ hx
    repeat (first | exact ext_refl _ | apply ext_alloc)
  have hX := put7_ext (b := w.heap.size) (.bool x) (.int .i64 0) (.int .i64 0) (.int .u64 0) (.int .u64 0) (.nilFunc) (.pointer none) hE (by omega)
  have hB := put7_block (.bool x) (.int .i64 0) (.int .i64 0) (.int .u64 0) (.int .u64 0) (.nilFunc) (.pointer none) hblk
  obtain ⟨c0, c1, c2, c3, c4, c5, c6, cz, ll⟩ := sev_of hblk
  rw [put7] at hX hB
  have HX := Lib.hid hX
  have HB := Lib.hid hB
  clear hX hB hx hE hblk
  go_wp2
  replace HX := HX.out
  replace HB := HB.out
  clear c0 c1 c2 c3 c4 c5 c6 cz ll
  generalize (World.setCell _ (⟨w.heap.size, 6, none⟩ : Addr) _) = Z at HB HX ⊢
  obtain ⟨c0, c1, c2, c3, c4, c5, c6, cz, ll⟩ := sev_of HB
  exact bodyPost_ret (by simp only [results, Try.results85, go_sem]; simp [go_sem, c0, c1, c2, c3, c4, c5, c6]) rfl (Ret.mk HX)

set_option maxRecDepth 8000 in
set_option maxHeartbeats 1000000 in
theorem overYB (x : Bool) (a1 a2 a3 a4 : Int) (w : World) : Calls Try.prog 81 #[.agg #[.bool x, .int .i64 a1, .int .i64 a2, .int .u64 a3, .int .u64 a4, .nilFunc, .pointer none]] w (Ret (.tuple #[.bool x, .bool true]) w) := by
  have n0 : ∀ w, (binOp .neq 120 .nilFunc .nilFunc).run Try.prog w = .ok (.bool false) w := fun w => neq_nil w fnB
  go_enter Try.func81, Try.ntmps81
  go_wp2_with (go_at_call 89; refine (ownB x _).mono ?_; rintro e w' ⟨rfl, hx⟩; have HX := Lib.hid hx; clear hx)
  exact bodyPost_ret (v := .tuple #[.bool x, .bool true]) (by simp [results, Try.results81, go_sem]) rfl (Ret.mk (by first | exact ext_trans (ext_alloc _ (ext_refl w)) HX.out | exact ext_trans (ext_alloc _ (ext_alloc _ (ext_refl w))) HX.out))

theorem fnN : Try.prog.underlying 56 = some (.func #[33] #[58] false) := by kernel_rfl
set_option maxRecDepth 8000 in
set_option maxHeartbeats 1000000 in
theorem ownN  (w : World) : Calls Try.prog 57 #[.agg #[]] w (Ret (.agg #[]) w) := by
  have ta : ∀ v w, (Instr.typeAssert (.iface 133 v) 20 128 true).run Try.prog w = .ok (.tuple #[.pointer none, .bool false]) w := fun v w => assert_no _ v w (by decide)
  go_enter Try.func57, Try.ntmps57
  go_wp2
  exact bodyPost_ret (v := .agg #[]) (by simp [results, Try.results57, go_sem]) rfl (Ret.mk (by repeat (first | exact ext_refl _ | apply ext_alloc)))

set_option maxRecDepth 8000 in
set_option maxHeartbeats 1000000 in
theorem doneN  (w : World) : Calls Try.prog 72 #[.agg #[]] w (Ret (.agg #[.int .i64 0, .int .i64 0, .int .u64 0, .int .u64 0, .nilFunc, .pointer none]) w) := by
  have hbd : ∀ v w, v = .agg #[] → (Instr.build 58 #[(0, v)]).run Try.prog w = .ok (.agg #[.int .i64 0, .int .i64 0, .int .u64 0, .int .u64 0, .nilFunc, .pointer none]) w := fun v w hv => by subst hv; exact run_build w _ _ #[.int .i64 0, .int .i64 0, .int .u64 0, .int .u64 0, .nilFunc, .pointer none] (by kernel_rfl)
  go_enter Try.func72, Try.ntmps72
  go_wp2_with (go_at_call 57; refine (ownN  _).mono ?_; rintro e w' ⟨rfl, hx⟩; refine Hid.out ?_)
  refine Lib.hid ?_
  have hblk := (hx.block (w.heap.size + 1) (by simp)).trans (heap_at (w.alloc (.cells #[] 53)) _ _ (by simp))
  have hE : Ext w w' := by
    refine ext_trans ?_ hx
    repeat (first | exact ext_refl _ | apply ext_alloc)
  have hX := put6_ext (b := w.heap.size + 1) (.int .i64 0) (.int .i64 0) (.int .u64 0) (.int .u64 0) (.nilFunc) (.pointer none) hE (by omega)
  have hB := put6_block (.int .i64 0) (.int .i64 0) (.int .u64 0) (.int .u64 0) (.nilFunc) (.pointer none) hblk
  obtain ⟨c0, c1, c2, c3, c4, c5, cz, ll⟩ := six_of hblk
  rw [put6] at hX hB
  have HX := Lib.hid hX
  have HB := Lib.hid hB
  clear hX hB hx hE hblk
  rename_i K hK
  refine hK _ _ ?_
  refine wpList_plain rfl fun K' hK' => ?_
  unfold Oper.wp execOp
  simp only [Sem.run_bind, Sem.run_pure, List.map_toArray, List.map_cons, List.map_nil]
  rw [hbd]
  rotate_left
  · rfl
  clear hbd
  go_wp2
  replace HX := HX.out
  replace HB := HB.out
  clear c0 c1 c2 c3 c4 c5 cz ll
  generalize (World.setCell _ (⟨w.heap.size + 1, 5, none⟩ : Addr) _) = Z at HB HX ⊢
  obtain ⟨c0, c1, c2, c3, c4, c5, cz, ll⟩ := six_of HB
  exact bodyPost_ret (by simp only [results, Try.results72, go_sem]; simp [go_sem, c0, c1, c2, c3, c4, c5]) rfl (Ret.mk HX)

set_option maxRecDepth 8000 in
set_option maxHeartbeats 1000000 in
theorem overYN  (a1 a2 a3 a4 : Int) (w : World) : Calls Try.prog 32 #[.agg #[.int .i64 a1, .int .i64 a2, .int .u64 a3, .int .u64 a4, .nilFunc, .pointer none]] w (Ret (.tuple #[.agg #[], .bool true]) w) := by
  have n0 : ∀ w, (binOp .neq 56 .nilFunc .nilFunc).run Try.prog w = .ok (.bool false) w := fun w => neq_nil w fnN
  have hp : ∀ o2, (partAt ⟨w.heap.size, 0, none⟩ 0 0).run Try.prog ((w.alloc (.cells #[.int .i64 a1, .int .i64 a2, .int .u64 a3, .int .u64 a4, .nilFunc, .pointer none] 58)).alloc o2) = .ok ⟨w.heap.size, 0, none⟩ ((w.alloc (.cells #[.int .i64 a1, .int .i64 a2, .int .u64 a3, .int .u64 a4, .nilFunc, .pointer none] 58)).alloc o2) := fun o2 => part00 ((Below.heap_alloc _ _ _ (by simp)).trans (heap_at w _ _ rfl))
  go_enter Try.func32, Try.ntmps32
  go_wp2_with (go_at_call 57; refine (ownN  _).mono ?_; rintro e w' ⟨rfl, hx⟩; have HX := Lib.hid hx; clear hx)
  exact bodyPost_ret (v := .tuple #[.agg #[], .bool true]) (by simp [results, Try.results32, go_sem]) rfl (Ret.mk (by first | exact ext_trans (ext_alloc _ (ext_refl w)) HX.out | exact ext_trans (ext_alloc _ (ext_alloc _ (ext_refl w))) HX.out))

set_option maxRecDepth 8000 in
set_option maxHeartbeats 2000000 in
theorem stepYN (D : Nat → Prop) {lo hi : Nat} {L : Lay} {M : MS}  (a : Acc) (fn : Value)  (r : Int) (e : BitVec 64) (w : World) (x : BitVec 64) (hx0 : Hid (M.wd r.toNat a.at_.toNat = x)) (hF : FnX D fn (fun _ => .agg #[.int .i64 0, .int .i64 0, .int .u64 0, .int .u64 0, .nilFunc, .pointer none]) w) (hM : MemIn lo hi L M w) (hd : DoOk M r e a.op a.at_) (hD : ∀ k, lo ≤ k → k < hi → D k) :
    Calls Try.prog 31 #[.agg #[.int .i64 a.op, .int .i64 a.at_, .int .u64 (U a.a), .int .u64 (U a.b), fn, .pointer none], .pointer (some ⟨L.bm, 0, none⟩), .agg #[.int .i64 r, .int .u64 (U e)]] w (RetM lo hi L (M.done r a.op a.at_ a.a a.b) (.tuple #[.agg #[.int .i64 0, .int .i64 0, .int .u64 0, .int .u64 0, .nilFunc, .pointer none], .bool true]) w) := by
  obtain ⟨g, caps, rfl, hg, hc⟩ := hF
  have HC := Lib.hid hc
  have HM := Lib.hid hM
  have HDO := Lib.hid hd
  have hhi := hM.top
  clear hc hM hd
  have n0 : ∀ f x y w, (binOp .eql 56 (.func f x y) .nilFunc).run Try.prog w = .ok (.bool false) w := fun f x y w => eql_fn w fnN f x y
  go_enter Try.func31, Try.ntmps31
  go_wp2_with (go_at_call 48; refine Hid.out ?_)
  refine Lib.hid ?_
  have hb3 := heap_at ((w.alloc (.cells #[.int .i64 a.op, .int .i64 a.at_, .int .u64 (U a.a), .int .u64 (U a.b), .func (.func g) #[] caps, .pointer none] 58)).alloc (.cells #[.int .i64 r, .int .u64 (U e)] 61)) (.cells #[.int .i64 0, .int .i64 0, .int .u64 0, .int .u64 0, .nilFunc, .pointer none] 58) (w.heap.size + 1 + 1) (by simp)
  have hb1 := cell_at (o := 4) (heap_at w (.cells #[.int .i64 a.op, .int .i64 a.at_, .int .u64 (U a.a), .int .u64 (U a.b), .func (.func g) #[] caps, .pointer none] 58) w.heap.size rfl) rfl
  have hb1' := ext_cell (ext_alloc (.cells #[.int .i64 0, .int .i64 0, .int .u64 0, .int .u64 0, .nilFunc, .pointer none] 58) (ext_alloc (.cells #[.int .i64 r, .int .u64 (U e)] 61) (ext_refl _))) hb1
  have hEW : Ext w (((w.alloc (.cells #[.int .i64 a.op, .int .i64 a.at_, .int .u64 (U a.a), .int .u64 (U a.b), .func (.func g) #[] caps, .pointer none] 58)).alloc (.cells #[.int .i64 r, .int .u64 (U e)] 61)).alloc (.cells #[.int .i64 0, .int .i64 0, .int .u64 0, .int .u64 0, .nilFunc, .pointer none] 58)) := ext_alloc _ (ext_alloc _ (ext_alloc _ (ext_refl w)))
  have hz : (((w.alloc (.cells #[.int .i64 a.op, .int .i64 a.at_, .int .u64 (U a.a), .int .u64 (U a.b), .func (.func g) #[] caps, .pointer none] 58)).alloc (.cells #[.int .i64 r, .int .u64 (U e)] 61)).alloc (.cells #[.int .i64 0, .int .i64 0, .int .u64 0, .int .u64 0, .nilFunc, .pointer none] 58)).heap.size = w.heap.size + 1 + 1 + 1 := by simp
  clear hb1
  generalize (((w.alloc (.cells #[.int .i64 a.op, .int .i64 a.at_, .int .u64 (U a.a), .int .u64 (U a.b), .func (.func g) #[] caps, .pointer none] 58)).alloc (.cells #[.int .i64 r, .int .u64 (U e)] 61)).alloc (.cells #[.int .i64 0, .int .i64 0, .int .u64 0, .int .u64 0, .nilFunc, .pointer none] 58)) = W at hb3 hb1' hEW hz ⊢
  refine (do_yes (HM.out.ext hEW) r a.op a.at_ e a.a a.b HDO.out).mono ?_
  rintro e1 w1 ⟨rfl, hm1, hf1⟩
  rw [hx0.out]
  have hs1 := hf1.size
  have k5 : w1.cell? ⟨w.heap.size, 4, none⟩ = some (.func (.func g) #[] caps) := by
    rw [hf1.cell (by omega) (.inr hhi)]; exact hb1'
  have hb31 := (hf1.block (w.heap.size + 1 + 1) (by omega) (.inr (by omega))).trans hb3
  have HM1 := Lib.hid hm1
  have HF1 := Lib.hid ((Fr.of_ext hEW).trans hf1)
  have HB1 := Lib.hid hb31
  have HCX := Lib.hid (HC.out x w1 (FD.of_fr HF1.out hD))
  have lw1 : w.heap.size < w1.heap.size := by omega
  clear hm1 hf1 hb3 hb1' hb31 hEW HC HM HDO
  go_wp2_with (refine HCX.out.mono ?_; rintro e2 w2 ⟨rfl, hx⟩; refine Hid.out ?_)
  refine Lib.hid ?_
  have hbx := (hx.block _ (heap_lt HB1.out)).trans HB1.out
  have hX := put6_frNew (b := w.heap.size + 1 + 1) (.int .i64 0) (.int .i64 0) (.int .u64 0) (.int .u64 0) (.nilFunc) (.pointer none) (HF1.out.ext hx) (by omega)
  have hMM := put6_mem (b := w.heap.size + 1 + 1) (.int .i64 0) (.int .i64 0) (.int .u64 0) (.int .u64 0) (.nilFunc) (.pointer none) (HM1.out.ext hx) (by omega)
  have hB := put6_block (.int .i64 0) (.int .i64 0) (.int .u64 0) (.int .u64 0) (.nilFunc) (.pointer none) hbx
  obtain ⟨c0, c1, c2, c3, c4, c5, cz, ll⟩ := six_of hbx
  rw [put6] at hB hX hMM
  have HB2 := Lib.hid hB
  have HX3 := Lib.hid hX
  have HMM := Lib.hid hMM
  clear hB hX hMM hx hbx
  go_wp2
  clear c0 c1 c2 c3 c4 c5 cz ll
  replace HB2 := HB2.out
  replace HX3 := HX3.out
  replace HMM := HMM.out
  generalize (World.setCell _ (⟨w.heap.size + 1 + 1, 5, none⟩ : Addr) _) = Z at HB2 HX3 HMM ⊢
  obtain ⟨c0, c1, c2, c3, c4, c5, cz, ll⟩ := six_of HB2
  exact bodyPost_ret (by simp only [results, Try.results31, go_sem]; simp [go_sem, c0, c1, c2, c3, c4, c5]) rfl ⟨rfl, HMM, HX3⟩
set_option maxRecDepth 8000 in
set_option maxHeartbeats 2000000 in
theorem stepON  (a1 a2 a3 a4 : Int) (mv : Value) (r : Int) (e : BitVec 64) (w : World) :
    Calls Try.prog 31 #[.agg #[.int .i64 a1, .int .i64 a2, .int .u64 a3, .int .u64 a4, .nilFunc, .pointer none], mv, .agg #[.int .i64 r, .int .u64 (U e)]] w (Ret (.tuple #[.agg #[.int .i64 a1, .int .i64 a2, .int .u64 a3, .int .u64 a4, .nilFunc, .pointer none], .bool false]) w) := by
  have n0 : ∀ w, (binOp .eql 56 .nilFunc .nilFunc).run Try.prog w = .ok (.bool true) w := fun w => eql_nil w fnN
  go_enter Try.func31, Try.ntmps31
  go_wp2
  exact bodyPost_ret (by simp only [results, Try.results31, go_sem]; simp [go_sem]) rfl (Ret.mk (ext_alloc _ (ext_alloc _ (ext_alloc _ (ext_refl w)))))

set_option maxRecDepth 8000 in
set_option maxHeartbeats 2000000 in
theorem run1N (D : Nat → Prop) {lo hi : Nat} {L : Lay} {M : MS}  (a : Acc) (fn : Value)  (r : Int) (e : BitVec 64) (w : World) (x : BitVec 64) (hx0 : Hid (M.wd r.toNat a.at_.toNat = x)) (hF : FnX D fn (fun _ => .agg #[.int .i64 0, .int .i64 0, .int .u64 0, .int .u64 0, .nilFunc, .pointer none]) w) (hM : MemIn lo hi L M w) (hd : DoOk M r e a.op a.at_) (hD : ∀ k, lo ≤ k → k < hi → D k) :
    Calls Try.prog 14 #[.agg #[.int .i64 a.op, .int .i64 a.at_, .int .u64 (U a.a), .int .u64 (U a.b), fn, .pointer none], .pointer (some ⟨L.bm, 0, none⟩), .agg #[.int .i64 r, .int .u64 (U e)], .int .i64 9] w (RetM lo hi L (M.done r a.op a.at_ a.a a.b) (.tuple #[.agg #[], .int .i64 1, .bool true]) w) := by
  have HF := Lib.hid hF
  have HM := Lib.hid hM
  have HDO := Lib.hid hd
  have hhi := hM.top
  obtain ⟨g, caps, rfl, _⟩ := id hF
  clear hF hM hd
  go_enter Try.func14, Try.ntmps14
  go_wp2
  have hEW : Ext w (((w.alloc (.cells #[.int .i64 a.op, .int .i64 a.at_, .int .u64 (U a.a), .int .u64 (U a.b), .func (.func g) #[] caps, .pointer none] 58)).alloc (.cells #[.int .i64 r, .int .u64 (U e)] 61)).alloc (.cells #[] 53)) := by repeat (first | exact ext_refl _ | apply ext_alloc)
  have hb1 : (((w.alloc (.cells #[.int .i64 a.op, .int .i64 a.at_, .int .u64 (U a.a), .int .u64 (U a.b), .func (.func g) #[] caps, .pointer none] 58)).alloc (.cells #[.int .i64 r, .int .u64 (U e)] 61)).alloc (.cells #[] 53)).heap[w.heap.size]? = some (.cells #[.int .i64 a.op, .int .i64 a.at_, .int .u64 (U a.a), .int .u64 (U a.b), .func (.func g) #[] caps, .pointer none] 58) := ((Below.heap_alloc _ _ _ (by simp; omega)).trans (Below.heap_alloc _ _ _ (by simp))).trans (heap_at w _ _ rfl)
  have hb2 : (((w.alloc (.cells #[.int .i64 a.op, .int .i64 a.at_, .int .u64 (U a.a), .int .u64 (U a.b), .func (.func g) #[] caps, .pointer none] 58)).alloc (.cells #[.int .i64 r, .int .u64 (U e)] 61)).alloc (.cells #[] 53)).heap[w.heap.size + 1]? = some (.cells #[.int .i64 r, .int .u64 (U e)] 61) := (Below.heap_alloc _ _ _ (by simp)).trans (heap_at _ _ _ (by simp))
  generalize (((w.alloc (.cells #[.int .i64 a.op, .int .i64 a.at_, .int .u64 (U a.a), .int .u64 (U a.b), .func (.func g) #[] caps, .pointer none] 58)).alloc (.cells #[.int .i64 r, .int .u64 (U e)] 61)).alloc (.cells #[] 53)) = W at hEW hb1 hb2 ⊢
  have p0 := cell_at (o := 0) hb2 rfl
  have p1 := cell_at (o := 1) hb2 rfl
  have lp := heap_lt hb2
  obtain ⟨c0, c1, c2, c3, c4, c5, cz, ll⟩ := six_of hb1
  have HEW := Lib.hid hEW
  have HB1 := Lib.hid hb1
  have HB2 := Lib.hid hb2
  have HFW : Hid (FnX D (.func (.func g) #[] caps) (fun _ => .agg #[.int .i64 0, .int .i64 0, .int .u64 0, .int .u64 0, .nilFunc, .pointer none]) W) := by
    obtain ⟨g', caps', e1, e2, e3⟩ := HF.out
    exact Lib.hid ⟨g', caps', e1, e2, fun x u hu => e3 x u ((FD.of_ext hEW).trans hu)⟩
  clear hEW hb1 hb2 HF
  refine wp_loop_rounds 3 ?_
  rw [rounds_succ]
  go_wp2_with (go_at_call 31; refine (stepYN D  a _  r e W x hx0 HFW.out (HM.out.ext HEW.out) HDO.out hD).mono ?_; rintro e1 w1 ⟨rfl, hm, hf⟩; refine Hid.out ?_)
  refine Lib.hid ?_
  have hs1 := hf.size
  have hB1 := (hf.block _ ll (.inr hhi)).trans HB1.out
  have hC1 := (hf.block _ lp (.inr (by omega))).trans HB2.out
  clear c0 c1 c2 c3 c4 c5 cz ll p0 p1
  obtain ⟨c0, c1, c2, c3, c4, c5, cz, ll⟩ := six_of hB1
  have hZF := put6_frNew (b := w.heap.size) (.int .i64 0) (.int .i64 0) (.int .u64 0) (.int .u64 0) (.nilFunc) (.pointer none) ((Fr.of_ext HEW.out).trans hf) (Nat.le_refl _)
  have hZM := put6_mem (b := w.heap.size) (.int .i64 0) (.int .i64 0) (.int .u64 0) (.int .u64 0) (.nilFunc) (.pointer none) hm hhi
  have hZB := put6_block (.int .i64 0) (.int .i64 0) (.int .u64 0) (.int .u64 0) (.nilFunc) (.pointer none) hB1
  have hZC := (put6_other (b := w.heap.size) (k := w.heap.size + 1) (w := w1) (.int .i64 0) (.int .i64 0) (.int .u64 0) (.int .u64 0) (.nilFunc) (.pointer none) (by omega)).trans hC1
  have hZS : (put6 w.heap.size (.int .i64 0) (.int .i64 0) (.int .u64 0) (.int .u64 0) (.nilFunc) (.pointer none) w1).heap.size = w1.heap.size := put6_size (.int .i64 0) (.int .i64 0) (.int .u64 0) (.int .u64 0) (.nilFunc) (.pointer none)
  rw [put6] at hZF hZM hZB hZC hZS
  have HZ := Lib.hid (And.intro hZF (And.intro hZM (And.intro hZB (And.intro hZC hZS))))
  clear hZF hZM hZB hZC hZS hm hf hB1 hC1 HFW HM HDO HEW HB1 HB2
  go_wp2
  obtain ⟨hZF, hZM, hZB, hZC, hZS⟩ := HZ.out
  clear HZ c0 c1 c2 c3 c4 c5 cz ll
  generalize (World.setCell _ (⟨w.heap.size, 5, none⟩ : Addr) _) = Z at hZF hZM hZB hZC hZS ⊢
  have hQ := ext_alloc (.cells #[.int .i64 0, .int .i64 0, .int .u64 0, .int .u64 0, .nilFunc, .pointer none] 58) (ext_refl Z)
  have HF2 := Lib.hid (hZF.ext hQ)
  have HM2 := Lib.hid (hZM.ext hQ)
  have hB2 := (hQ.block _ (heap_lt hZB)).trans hZB
  have hC2 := (hQ.block _ (heap_lt hZC)).trans hZC
  clear hZF hZM hZB hZC hZS hQ
  generalize Z.alloc (.cells #[.int .i64 0, .int .i64 0, .int .u64 0, .int .u64 0, .nilFunc, .pointer none] 58) = Y at HF2 HM2 hB2 hC2 ⊢
  obtain ⟨c0, c1, c2, c3, c4, c5, cz, ll⟩ := six_of hB2
  have p0 := cell_at (o := 0) hC2 rfl
  have p1 := cell_at (o := 1) hC2 rfl
  have lp2 := heap_lt hC2
  clear hB2 hC2
  rw [rounds_succ]
  go_wp2_with (first
    | (go_at_call 31; refine (stepON  0 0 0 0 _ r e Y).mono ?_; rintro e1 w3 ⟨rfl, hx⟩; have HX3 := Lib.hid hx; have c0 := ext_cell hx c0; have c1 := ext_cell hx c1; have c2 := ext_cell hx c2; have c3 := ext_cell hx c3; have c4 := ext_cell hx c4; have c5 := ext_cell hx c5; have ll3 := Nat.lt_of_lt_of_le ll hx.size; clear hx)
    | (go_at_call 32; refine (overYN  0 0 0 0 _).mono ?_; rintro e1 w4 ⟨rfl, hx⟩; have HX4 := Lib.hid (ext_trans (ext_alloc _ HX3.out) hx); clear hx))
  exact bodyPost_ret (v := .tuple #[.agg #[], .int .i64 1, .bool true]) (by simp [results, Try.results14, go_sem]) rfl ⟨rfl, by first | exact HM2.out.ext HX4.out | exact HM2.out.ext (ext_alloc _ HX4.out), by first | exact HF2.out.ext HX4.out | exact HF2.out.ext (ext_alloc _ HX4.out)⟩


end Go.Proofs.Ytpidmbclgfnekaa

/-
  Programs as trees: what a program may ask, and how it goes on by what it is told; what stands in memory for one. Conditions: those of each theorem.
-/
namespace Go.Proofs.Ytpidmbclgfnekaa
open Go Go.RowKit

/-- A program: it is over; it asks, and goes on by the word that it is told; it goes on, nobody says how. -/
inductive Tr (α : Type) : Type
  | done (r : α) : Tr α
  | ask (a : Acc) (k : BitVec 64 → Tr α) : Tr α
  | more : Tr α
def Tr.bind {α β : Type} : Tr α → (α → Tr β) → Tr β
  | .done r, f => f r
  | .ask a k, f => .ask a fun x => (k x).bind f
  | .more, _ => .more
/-- What programs of a type look like: the value of one that comes to r; of an answer that isn't there; an answer's value. -/
structure Kd (α : Type) where
  S : Value → Acc → Value → Value
  z : Value
  enc : α → Value
def vS (r : Value) (a : Acc) (fn : Value) : Value := .agg #[r, .int .i64 a.op, .int .i64 a.at_, .int .u64 (U a.a), .int .u64 (U a.b), fn, .pointer none]
def vS0 (_ : Value) (a : Acc) (fn : Value) : Value := .agg #[.int .i64 a.op, .int .i64 a.at_, .int .u64 (U a.a), .int .u64 (U a.b), fn, .pointer none]
def kU : Kd (BitVec 64) := ⟨vS, .int .u64 0, fun x => .int .u64 (U x)⟩
def kB : Kd Bool := ⟨vS, .bool false, fun x => .bool x⟩
def kI : Kd Int := ⟨vS, .int .i64 0, fun x => .int .i64 x⟩
def kN : Kd Unit := ⟨vS0, .agg #[], fun _ => .agg #[]⟩

/-- The blocks of F are as before. -/
def Agr (F : Nat → Prop) (w w' : World) : Prop := ∀ j, F j → w'.heap[j]? = w.heap[j]?
theorem Agr.refl (F : Nat → Prop) (w : World) : Agr F w w := fun _ _ => rfl
theorem Agr.trans {F : Nat → Prop} {a b c : World} (h : Agr F a b) (k : Agr F b c) : Agr F a c := fun j hj => (k j hj).trans (h j hj)
theorem Agr.sub {F G : Nat → Prop} {a b : World} (h : Agr F a b) (hs : ∀ j, G j → F j) : Agr G a b := fun j hj => h j (hs j hj)
/-- All blocks of F are there. -/
def Bnd (F : Nat → Prop) (w : World) : Prop := ∀ j, F j → j < w.heap.size
theorem Bnd.ext {F : Nat → Prop} {w w' : World} (h : Bnd F w) (hs : w.heap.size ≤ w'.heap.size) : Bnd F w' := fun j hj => Nat.lt_of_lt_of_le (h j hj) hs
theorem Agr.of_ext {F : Nat → Prop} {w w' : World} (h : Ext w w') (hF : Bnd F w) : Agr F w w' := fun j hj => h.block j (hF j hj)
theorem Agr.of_fr {F : Nat → Prop} {lo hi : Nat} {w w' : World} (h : Fr lo hi w w') (hF : Bnd F w) (hn : ∀ j, F j → j < lo ∨ hi ≤ j) : Agr F w w' := fun j hj => h.block j (hF j hj) (hn j hj)
theorem Agr.of_put7 {F : Nat → Prop} {w : World} {b : Nat} (x0 x1 x2 x3 x4 x5 x6 : Value) (hn : ¬ F b) : Agr F w (put7 b x0 x1 x2 x3 x4 x5 x6 w) := fun _ hj => put7_other _ _ _ _ _ _ _ fun e => hn (e ▸ hj)
theorem Agr.of_put6 {F : Nat → Prop} {w : World} {b : Nat} (x0 x1 x2 x3 x4 x5 : Value) (hn : ¬ F b) : Agr F w (put6 b x0 x1 x2 x3 x4 x5 w) := fun _ hj => put6_other _ _ _ _ _ _ fun e => hn (e ▸ hj)

/-- By no block at all. -/
def noF : Nat → Prop := fun _ => False
theorem bnd_no (w : World) : Bnd noF w := fun _ h => h.elim
/-- What a call comes to that makes such a program out of the blocks F0 and of new ones. -/
def RetP (Q : (Nat → Prop) → Value → World → Prop) (F0 : Nat → Prop) (w : World) (e : Ending) (w' : World) : Prop :=
  ∃ v F, e = .returned v ∧ Ext w w' ∧ Q F v w' ∧ Bnd F w' ∧ ∀ j, F j → F0 j ∨ w.heap.size ≤ j
def Enters (g : FuncId) : Prop := ∀ args w, (callFunc g args).run Try.prog w = .ok (.enter g args) w
/-- v stands in w for the program t, by the blocks of F alone. -/
def PT {α : Type} (k : Kd α) : Tr α → (Nat → Prop) → Value → World → Prop
  | .done r => fun _ v _ => v = k.S (k.enc r) accZ .nilFunc
  | .ask a f => fun F v w => ∃ g caps, v = k.S k.z a (.func (.func g) #[] caps) ∧ Enters g ∧ ∀ (x : BitVec 64) (w' : World), Agr F w w' → Calls Try.prog g (#[.int .u64 (U x)] ++ caps) w' (RetP (PT k (f x)) F w')
  | .more => fun _ v _ => ∃ a g caps, v = k.S k.z a (.func (.func g) #[] caps) ∧ Enters g
theorem PT.agr {α : Type} {k : Kd α} {t : Tr α} {F : Nat → Prop} {v : Value} {w w' : World} (h : PT k t F v w) (ha : Agr F w w') : PT k t F v w' := by
  cases t with
  | done r => exact h
  | ask a f => obtain ⟨g, caps, e, he, hc⟩ := h; exact ⟨g, caps, e, he, fun x u hu => hc x u (ha.trans hu)⟩
  | more => exact h
/-- Whatever isn't over may be said to go on. -/
theorem PT.more {α : Type} {k : Kd α} {a : Acc} {f : BitVec 64 → Tr α} {F : Nat → Prop} {v : Value} {w : World} (h : PT k (.ask a f) F v w) : PT k .more F v w := by
  obtain ⟨g, caps, e, he, _⟩ := h
  exact ⟨a, g, caps, e, he⟩
theorem RetP.mono {Q : (Nat → Prop) → Value → World → Prop} {F G : Nat → Prop} {w : World} {e : Ending} {w' : World} (h : RetP Q F w e w') (hs : ∀ j, F j → G j) : RetP Q G w e w' := by
  obtain ⟨v, F', e1, h1, h2, h3, h4⟩ := h
  exact ⟨v, F', e1, h1, h2, h3, fun j hj => (h4 j hj).imp_left (hs j)⟩
/-- The same, seen from an earlier world. -/
theorem RetP.back {Q : (Nat → Prop) → Value → World → Prop} {F G : Nat → Prop} {u w : World} {e : Ending} {w' : World} (h : RetP Q F w e w') (hu : Ext u w) (hs : ∀ j, F j → G j ∨ u.heap.size ≤ j) : RetP Q G u e w' := by
  obtain ⟨v, F', e1, h1, h2, h3, h4⟩ := h
  refine ⟨v, F', e1, ext_trans hu h1, h2, h3, fun j hj => ?_⟩
  rcases h4 j hj with h | h
  · exact hs j h
  · exact .inr (Nat.le_trans hu.size h)
/-- The last call of a function: what it comes to, seen from the function's begin; RB is the block of the function's own result. -/
theorem RetP.tail {Q : (Nat → Prop) → Value → World → Prop} {F G : Nat → Prop} {u w : World} {e : Ending} {w' : World} (h : RetP Q F w e w') (RB : Nat) (hu : Ext u w) (hb : RB < w.heap.size) (hn : ¬ F RB) (hs : ∀ j, F j → G j ∨ u.heap.size ≤ j) :
    ∃ v F', e = .returned v ∧ Ext u w' ∧ Q F' v w' ∧ Bnd F' w' ∧ (∀ j, F' j → G j ∨ u.heap.size ≤ j) ∧ ¬ F' RB ∧ w'.heap[RB]? = w.heap[RB]? := by
  obtain ⟨v, F', e1, h1, h2, h3, h4⟩ := h
  refine ⟨v, F', e1, ext_trans hu h1, h2, h3, fun j hj => ?_, fun hj => ?_, h1.block RB hb⟩
  · rcases h4 j hj with h | h
    · exact hs j h
    · exact .inr (Nat.le_trans hu.size h)
  · rcases h4 RB hj with h | h
    · exact hn h
    · omega
/-- A function value that makes of an answer the program f of it. -/
def CT {α β : Type} (ka : Kd α) (kb : Kd β) (f : α → Tr β) (F : Nat → Prop) (fn : Value) (w : World) : Prop :=
  ∃ g caps, fn = .func (.func g) #[] caps ∧ Enters g ∧ ∀ (r : α) (w' : World), Agr F w w' → Calls Try.prog g (#[ka.enc r] ++ caps) w' (RetP (PT kb (f r)) F w')
theorem CT.agr {α β : Type} {ka : Kd α} {kb : Kd β} {f : α → Tr β} {F : Nat → Prop} {fn : Value} {w w' : World} (h : CT ka kb f F fn w) (ha : Agr F w w') : CT ka kb f F fn w' := by
  obtain ⟨g, caps, e, he, hc⟩ := h
  exact ⟨g, caps, e, he, fun r u hu => hc r u (ha.trans hu)⟩
/-- What a program's value looks like. -/
theorem PT.shape {α : Type} {k : Kd α} {t : Tr α} {F : Nat → Prop} {v : Value} {w : World} (h : PT k t F v w) : ∃ r a fn, v = k.S r a fn ∧ ((fn = .nilFunc ∧ ∃ r', r = k.enc r') ∨ (r = k.z ∧ ∃ g caps, fn = .func (.func g) #[] caps)) := by
  cases t with
  | done r => exact ⟨_, _, _, h, .inl ⟨rfl, r, rfl⟩⟩
  | ask a f => obtain ⟨g, caps, e, _⟩ := h; exact ⟨_, _, _, e, .inr ⟨rfl, g, caps, rfl⟩⟩
  | more => obtain ⟨a, g, caps, e, _⟩ := h; exact ⟨_, _, _, e, .inr ⟨rfl, g, caps, rfl⟩⟩

/-- So many steps of a program: the memory, how many were done, what is left; nothing is said where nobody says how it goes on. -/
def runT {α : Type} (r : Int) (e : BitVec 64) : Nat → Tr α → MS → Option (MS × Nat × Tr α)
  | 0, t, M => some (M, 0, t)
  | _ + 1, .done x, M => some (M, 0, .done x)
  | _ + 1, .more, _ => none
  | n + 1, .ask a f, M => if DoOk M r e a.op a.at_ then (runT r e n (f (M.wd r.toNat a.at_.toNat)) (M.done r a.op a.at_ a.a a.b)).map (fun x => (x.1, x.2.1 + 1, x.2.2)) else some (M, 0, .ask a f)
theorem accZ_op : accZ.op = 0 := rfl
end Go.Proofs.Ytpidmbclgfnekaa

/-
  What the calls of own, Done and Over come to, of programs of each kind. Conditions: those of each theorem.
-/
namespace Go.Proofs.Ytpidmbclgfnekaa
open Go Go.RowKit

theorem fnI : Try.prog.underlying 36 = some (.func #[33] #[39] false) := by kernel_rfl
set_option maxRecDepth 8000 in
set_option maxHeartbeats 2000000 in
theorem ownI (x : Int) (w : World) : Calls Try.prog 49 #[.int .i64 x] w (Ret (.int .i64 x) w) := by
  have ta : ∀ v w, (Instr.typeAssert (.iface 130 v) 20 128 true).run Try.prog w = .ok (.tuple #[.pointer none, .bool false]) w := fun v w => assert_no _ v w (by decide)
  go_enter Try.func49, Try.ntmps49
  go_wp2
  go_ret
  exact Ret.mk (by repeat (first | exact ext_refl _ | apply ext_alloc))
set_option maxRecDepth 8000 in
set_option maxHeartbeats 2000000 in
theorem doneI (x : Int) (w : World) : Calls Try.prog 38 #[.int .i64 x] w (Ret (.agg #[.int .i64 x, .int .i64 0, .int .i64 0, .int .u64 0, .int .u64 0, .nilFunc, .pointer none]) w) := by
  go_enter Try.func38, Try.ntmps38
  go_wp2_with (go_at_call 49; refine (ownI x _).mono ?_; rintro e w' ⟨rfl, hx⟩; refine Hid.out ?_)
  refine Lib.hid ?_
  have hblk := (hx.block (w.heap.size) (by simp)).trans (heap_at w _ _ (by simp))
  have hE : Ext w w' := by
    refine ext_trans ?_ hx
    repeat (first | exact ext_refl _ | apply ext_alloc)
  have hX := put7_ext (b := w.heap.size) (.int .i64 x) (.int .i64 0) (.int .i64 0) (.int .u64 0) (.int .u64 0) (.nilFunc) (.pointer none) hE (by omega)
  have hB := put7_block (.int .i64 x) (.int .i64 0) (.int .i64 0) (.int .u64 0) (.int .u64 0) (.nilFunc) (.pointer none) hblk
  obtain ⟨c0, c1, c2, c3, c4, c5, c6, cz, ll⟩ := sev_of hblk
  rw [put7] at hX hB
  have HX := Lib.hid hX
  have HB := Lib.hid hB
  clear hX hB hx hE hblk
  go_wp2
  replace HX := HX.out
  replace HB := HB.out
  clear c0 c1 c2 c3 c4 c5 c6 cz ll
  generalize (World.setCell _ (⟨w.heap.size, 6, none⟩ : Addr) _) = Z at HB HX ⊢
  obtain ⟨c0, c1, c2, c3, c4, c5, c6, cz, ll⟩ := sev_of HB
  exact bodyPost_ret (by simp only [results, Try.results38, go_sem]; simp [go_sem, c0, c1, c2, c3, c4, c5, c6]) rfl (Ret.mk HX)
set_option maxRecDepth 8000 in
set_option maxHeartbeats 2000000 in
theorem overYI (x : Int) (a1 a2 a3 a4 : Int) (w : World) : Calls Try.prog 20 #[.agg #[.int .i64 x, .int .i64 a1, .int .i64 a2, .int .u64 a3, .int .u64 a4, .nilFunc, .pointer none]] w (Ret (.tuple #[.int .i64 x, .bool true]) w) := by
  have n0 : ∀ w, (binOp .neq 36 .nilFunc .nilFunc).run Try.prog w = .ok (.bool false) w := fun w => neq_nil w fnI
  go_enter Try.func20, Try.ntmps20
  go_wp2_with (go_at_call 49; refine (ownI x _).mono ?_; rintro e w' ⟨rfl, hx⟩; have HX := Lib.hid hx; clear hx)
  exact bodyPost_ret (v := .tuple #[.int .i64 x, .bool true]) (by simp [results, Try.results20, go_sem]) rfl (Ret.mk (by first | exact ext_trans (ext_alloc _ (ext_refl w)) HX.out | exact ext_trans (ext_alloc _ (ext_alloc _ (ext_refl w))) HX.out))
set_option maxRecDepth 8000 in
set_option maxHeartbeats 2000000 in
theorem ovnU (a : Acc) (f : Fn) (y z : Array Value) (w : World) : Calls Try.prog 62 #[.agg #[.int .u64 0, .int .i64 a.op, .int .i64 a.at_, .int .u64 (U a.a), .int .u64 (U a.b), .func f y z, .pointer none]] w (Ret (.tuple #[.int .u64 0, .bool false]) w) := by
  have n0 : ∀ f x y w, (binOp .neq 92 (.func f x y) .nilFunc).run Try.prog w = .ok (.bool true) w := fun f x y w => neq_fn w fnU f x y
  go_enter Try.func62, Try.ntmps62
  go_wp2
  exact bodyPost_ret (v := .tuple #[.int .u64 0, .bool false]) (by simp [results, Try.results62, go_sem]) rfl (Ret.mk (by repeat (first | exact ext_refl _ | apply ext_alloc)))
theorem shU {t : Tr (BitVec 64)} {F : Nat → Prop} {v : Value} {w : World} (h : PT kU t F v w) : ∃ (y : Int) (a : Acc) (fn : Value), v = .agg #[.int .u64 y, .int .i64 a.op, .int .i64 a.at_, .int .u64 (U a.a), .int .u64 (U a.b), fn, .pointer none] ∧ (fn = .nilFunc ∨ ∃ g caps, fn = .func (.func g) #[] caps) := by
  cases t with
  | done r => exact ⟨_, _, _, h, .inl rfl⟩
  | ask a f => obtain ⟨g, caps, e, _⟩ := h; exact ⟨_, _, _, e, .inr ⟨g, caps, rfl⟩⟩
  | more => obtain ⟨a, g, caps, e, _⟩ := h; exact ⟨_, _, _, e, .inr ⟨g, caps, rfl⟩⟩
set_option maxRecDepth 8000 in
set_option maxHeartbeats 2000000 in
theorem ovnB (a : Acc) (f : Fn) (y z : Array Value) (w : World) : Calls Try.prog 81 #[.agg #[.bool false, .int .i64 a.op, .int .i64 a.at_, .int .u64 (U a.a), .int .u64 (U a.b), .func f y z, .pointer none]] w (Ret (.tuple #[.bool false, .bool false]) w) := by
  have n0 : ∀ f x y w, (binOp .neq 120 (.func f x y) .nilFunc).run Try.prog w = .ok (.bool true) w := fun f x y w => neq_fn w fnB f x y
  go_enter Try.func81, Try.ntmps81
  go_wp2
  exact bodyPost_ret (v := .tuple #[.bool false, .bool false]) (by simp [results, Try.results81, go_sem]) rfl (Ret.mk (by repeat (first | exact ext_refl _ | apply ext_alloc)))
theorem shB {t : Tr (Bool)} {F : Nat → Prop} {v : Value} {w : World} (h : PT kB t F v w) : ∃ (y : Bool) (a : Acc) (fn : Value), v = .agg #[.bool y, .int .i64 a.op, .int .i64 a.at_, .int .u64 (U a.a), .int .u64 (U a.b), fn, .pointer none] ∧ (fn = .nilFunc ∨ ∃ g caps, fn = .func (.func g) #[] caps) := by
  cases t with
  | done r => exact ⟨_, _, _, h, .inl rfl⟩
  | ask a f => obtain ⟨g, caps, e, _⟩ := h; exact ⟨_, _, _, e, .inr ⟨g, caps, rfl⟩⟩
  | more => obtain ⟨a, g, caps, e, _⟩ := h; exact ⟨_, _, _, e, .inr ⟨g, caps, rfl⟩⟩
set_option maxRecDepth 8000 in
set_option maxHeartbeats 2000000 in
theorem ovnI (a : Acc) (f : Fn) (y z : Array Value) (w : World) : Calls Try.prog 20 #[.agg #[.int .i64 0, .int .i64 a.op, .int .i64 a.at_, .int .u64 (U a.a), .int .u64 (U a.b), .func f y z, .pointer none]] w (Ret (.tuple #[.int .i64 0, .bool false]) w) := by
  have n0 : ∀ f x y w, (binOp .neq 36 (.func f x y) .nilFunc).run Try.prog w = .ok (.bool true) w := fun f x y w => neq_fn w fnI f x y
  go_enter Try.func20, Try.ntmps20
  go_wp2
  exact bodyPost_ret (v := .tuple #[.int .i64 0, .bool false]) (by simp [results, Try.results20, go_sem]) rfl (Ret.mk (by repeat (first | exact ext_refl _ | apply ext_alloc)))
theorem shI {t : Tr (Int)} {F : Nat → Prop} {v : Value} {w : World} (h : PT kI t F v w) : ∃ (y : Int) (a : Acc) (fn : Value), v = .agg #[.int .i64 y, .int .i64 a.op, .int .i64 a.at_, .int .u64 (U a.a), .int .u64 (U a.b), fn, .pointer none] ∧ (fn = .nilFunc ∨ ∃ g caps, fn = .func (.func g) #[] caps) := by
  cases t with
  | done r => exact ⟨_, _, _, h, .inl rfl⟩
  | ask a f => obtain ⟨g, caps, e, _⟩ := h; exact ⟨_, _, _, e, .inr ⟨g, caps, rfl⟩⟩
  | more => obtain ⟨a, g, caps, e, _⟩ := h; exact ⟨_, _, _, e, .inr ⟨g, caps, rfl⟩⟩
set_option maxRecDepth 8000 in
set_option maxHeartbeats 2000000 in
theorem ovnN (a : Acc) (f : Fn) (y z : Array Value) (w : World) : Calls Try.prog 32 #[.agg #[.int .i64 a.op, .int .i64 a.at_, .int .u64 (U a.a), .int .u64 (U a.b), .func f y z, .pointer none]] w (Ret (.tuple #[.agg #[], .bool false]) w) := by
  have n0 : ∀ f x y w, (binOp .neq 56 (.func f x y) .nilFunc).run Try.prog w = .ok (.bool true) w := fun f x y w => neq_fn w fnN f x y
  go_enter Try.func32, Try.ntmps32
  go_wp2
  exact bodyPost_ret (v := .tuple #[.agg #[], .bool false]) (by simp [results, Try.results32, go_sem]) rfl (Ret.mk (by repeat (first | exact ext_refl _ | apply ext_alloc)))
theorem shN {t : Tr Unit} {F : Nat → Prop} {v : Value} {w : World} (h : PT kN t F v w) : ∃ (a : Acc) (fn : Value), v = .agg #[.int .i64 a.op, .int .i64 a.at_, .int .u64 (U a.a), .int .u64 (U a.b), fn, .pointer none] ∧ (fn = .nilFunc ∨ ∃ g caps, fn = .func (.func g) #[] caps) := by
  cases t with
  | done r => exact ⟨_, _, h, .inl rfl⟩
  | ask a f => obtain ⟨g, caps, e, _⟩ := h; exact ⟨_, _, e, .inr ⟨g, caps, rfl⟩⟩
  | more => obtain ⟨a, g, caps, e, _⟩ := h; exact ⟨_, _, e, .inr ⟨g, caps, rfl⟩⟩
end Go.Proofs.Ytpidmbclgfnekaa
