/-
  What the calls of Step and Over come to (U). Conditions: those of each theorem.
-/
import Derived.Test.YtkjbfhcgldgkaaaGaw
import Derived.Deep.Cut
namespace Go.Proofs.Ytkjbfhcgldgkaaa
open Go Go.RowKit

set_option maxRecDepth 8000 in
set_option maxHeartbeats 2000000 in
theorem stepA_U {lo hi : Nat} {L : Lay} {M : MS} (a : Acc) (f : BitVec 64 → Tr (BitVec 64)) (F : Nat → Prop) (v : Value) (r : Int) (e : BitVec 64) (w : World) (hP : PT kU (.ask a f) F v w) (hF : Bnd F w) (hO : ∀ j, F j → j < lo ∨ hi ≤ j) (hM : MemIn lo hi L M w) (hd : DoOk M r e a.op a.at_) (x : BitVec 64) (hx0 : Hid (M.wd r.toNat a.at_.toNat = x)) :
    Calls Try.prog 32 #[v, .pointer (some ⟨L.bm, 0, none⟩), .agg #[.int .i64 r, .int .u64 (U e)]] w (RetS kU lo hi L (M.done r a.op a.at_ a.a a.b) (f x) F w) := by
  obtain ⟨g, caps, rfl, hg, hc⟩ := hP
  have HC := Lib.hid hc
  have HM := Lib.hid hM
  have HDO := Lib.hid hd
  have hhi := hM.top
  unfold Enters at hg
  clear hc hM hd
  have n0 : ∀ f x y w, (binOp .eql 77 (.func f x y) .nilFunc).run Try.prog w = .ok (.bool false) w := fun f x y w => eql_fn w fnU f x y
  show Calls Try.prog 32 #[.agg #[.int .u64 0, .int .i64 a.op, .int .i64 a.at_, .int .u64 (U a.a), .int .u64 (U a.b), .func (.func g) #[] caps, .pointer none], .pointer (some ⟨L.bm, 0, none⟩), .agg #[.int .i64 r, .int .u64 (U e)]] w _
  go_enter Try.func32, Try.ntmps32
  go_wp2_with (go_at_call 30; refine Hid.out ?_)
  refine Lib.hid ?_
  have hb3 := heap_at ((w.alloc (.cells #[.int .u64 0, .int .i64 a.op, .int .i64 a.at_, .int .u64 (U a.a), .int .u64 (U a.b), .func (.func g) #[] caps, .pointer none] 79)).alloc (.cells #[.int .i64 r, .int .u64 (U e)] 62)) (.cells #[.int .u64 0, .int .i64 0, .int .i64 0, .int .u64 0, .int .u64 0, .nilFunc, .pointer none] 79) (w.heap.size + 1 + 1) (by simp)
  have hb1 := cell_at (o := 5) (heap_at w (.cells #[.int .u64 0, .int .i64 a.op, .int .i64 a.at_, .int .u64 (U a.a), .int .u64 (U a.b), .func (.func g) #[] caps, .pointer none] 79) w.heap.size rfl) rfl
  have hb1' := ext_cell (ext_alloc (.cells #[.int .u64 0, .int .i64 0, .int .i64 0, .int .u64 0, .int .u64 0, .nilFunc, .pointer none] 79) (ext_alloc (.cells #[.int .i64 r, .int .u64 (U e)] 62) (ext_refl _))) hb1
  have hEW : Ext w (((w.alloc (.cells #[.int .u64 0, .int .i64 a.op, .int .i64 a.at_, .int .u64 (U a.a), .int .u64 (U a.b), .func (.func g) #[] caps, .pointer none] 79)).alloc (.cells #[.int .i64 r, .int .u64 (U e)] 62)).alloc (.cells #[.int .u64 0, .int .i64 0, .int .i64 0, .int .u64 0, .int .u64 0, .nilFunc, .pointer none] 79)) := ext_alloc _ (ext_alloc _ (ext_alloc _ (ext_refl w)))
  have hz : (((w.alloc (.cells #[.int .u64 0, .int .i64 a.op, .int .i64 a.at_, .int .u64 (U a.a), .int .u64 (U a.b), .func (.func g) #[] caps, .pointer none] 79)).alloc (.cells #[.int .i64 r, .int .u64 (U e)] 62)).alloc (.cells #[.int .u64 0, .int .i64 0, .int .i64 0, .int .u64 0, .int .u64 0, .nilFunc, .pointer none] 79)).heap.size = w.heap.size + 1 + 1 + 1 := by simp
  clear hb1
  generalize (((w.alloc (.cells #[.int .u64 0, .int .i64 a.op, .int .i64 a.at_, .int .u64 (U a.a), .int .u64 (U a.b), .func (.func g) #[] caps, .pointer none] 79)).alloc (.cells #[.int .i64 r, .int .u64 (U e)] 62)).alloc (.cells #[.int .u64 0, .int .i64 0, .int .i64 0, .int .u64 0, .int .u64 0, .nilFunc, .pointer none] 79)) = W at hb3 hb1' hEW hz ⊢
  refine (do_yes (HM.out.ext hEW) r a.op a.at_ e a.a a.b HDO.out).mono ?_
  rintro e1 w1 ⟨rfl, hm1, hf1⟩
  rw [hx0.out]
  have hs1 := hf1.size
  have k5 : w1.cell? ⟨w.heap.size, 5, none⟩ = some (.func (.func g) #[] caps) := by
    rw [hf1.cell (by omega) (.inr hhi)]; exact hb1'
  have hb31 : w1.heap[w.heap.size + 1 + 1]? = _ := (hf1.block _ (by omega) (.inr (by omega))).trans hb3
  have HM1 := Lib.hid hm1
  have HF1 := Lib.hid ((Fr.of_ext hEW).trans hf1)
  have HB1 := Lib.hid hb31
  have HCX := Lib.hid (HC.out x w1 (Agr.of_fr HF1.out hF hO))
  have lw1 : w.heap.size < w1.heap.size := by omega
  clear hm1 hf1 hb3 hb1' hb31 hEW HC HM HDO
  go_wp2_with (refine HCX.out.mono ?_; rintro e2 w2 ⟨v', F', rfl, hx, hp, hbn, hsub⟩; refine Hid.out ?_)
  refine Lib.hid ?_
  have hbx := (hx.block _ (heap_lt HB1.out)).trans HB1.out
  obtain ⟨y, a2, fn2, rfl, hfn⟩ := shU hp
  have hnF : ¬ F' (w.heap.size + 1 + 1) := fun h => by
    rcases hsub _ h with h | h
    · have := hF _ h; omega
    · omega
  have hX := put7_frNew (b := w.heap.size + 1 + 1) (.int .u64 y) (.int .i64 a2.op) (.int .i64 a2.at_) (.int .u64 (U a2.a)) (.int .u64 (U a2.b)) (fn2) (.pointer none) (HF1.out.ext hx) (by omega)
  have hMM := put7_mem (b := w.heap.size + 1 + 1) (.int .u64 y) (.int .i64 a2.op) (.int .i64 a2.at_) (.int .u64 (U a2.a)) (.int .u64 (U a2.b)) (fn2) (.pointer none) (HM1.out.ext hx) (by omega)
  have hB := put7_block (.int .u64 y) (.int .i64 a2.op) (.int .i64 a2.at_) (.int .u64 (U a2.a)) (.int .u64 (U a2.b)) (fn2) (.pointer none) hbx
  have hP := hp.agr (Agr.of_put7 (b := w.heap.size + 1 + 1) (.int .u64 y) (.int .i64 a2.op) (.int .i64 a2.at_) (.int .u64 (U a2.a)) (.int .u64 (U a2.b)) (fn2) (.pointer none) hnF)
  have hS : (put7 (w.heap.size + 1 + 1) (.int .u64 y) (.int .i64 a2.op) (.int .i64 a2.at_) (.int .u64 (U a2.a)) (.int .u64 (U a2.b)) (fn2) (.pointer none) w2).heap.size = w2.heap.size := put7_size (.int .u64 y) (.int .i64 a2.op) (.int .i64 a2.at_) (.int .u64 (U a2.a)) (.int .u64 (U a2.b)) (fn2) (.pointer none)
  obtain ⟨c0, c1, c2, c3, c4, c5, c6, cz, ll⟩ := sev_of hbx
  rw [put7] at hX hB hP hS hMM
  have HX := Lib.hid (And.intro hX (And.intro hB (And.intro hP (And.intro hS hMM))))
  have HFN := Lib.hid hfn
  have HBN := Lib.hid hbn
  have HSUB := Lib.hid hsub
  clear hX hB hP hS hMM hx hbx hp hfn hbn hsub hnF HCX HB1 HM1 HF1
  rcases HFN.out with rfl | ⟨g', caps', rfl⟩
  all_goals
    go_wp2
    clear c0 c1 c2 c3 c4 c5 c6 cz ll
    obtain ⟨hX, hB, hP, hS, hMM⟩ := HX.out
    clear HX
    generalize (World.setCell _ (⟨w.heap.size + 1 + 1, 6, none⟩ : Addr) _) = Z at hX hB hP hS hMM ⊢
    obtain ⟨c0, c1, c2, c3, c4, c5, c6, cz, ll⟩ := sev_of hB
    exact bodyPost_ret (by simp only [results, Try.results32, go_sem]; simp [go_sem, c0, c1, c2, c3, c4, c5, c6]) rfl ⟨_, F', rfl, hP, fun j hj => by rw [hS]; exact HBN.out j hj, fun j hj => (HSUB.out j hj).imp_right fun h => by omega, hMM, hX⟩
set_option maxRecDepth 8000 in
set_option maxHeartbeats 2000000 in
theorem stepR_U {lo hi : Nat} {L : Lay} {M : MS} (a : Acc) (f : BitVec 64 → Tr (BitVec 64)) (F : Nat → Prop) (v : Value) (r : Int) (e : BitVec 64) (w : World) (hP : PT kU (.ask a f) F v w) (hM : MemIn lo hi L M w) (hd : ¬ DoOk M r e a.op a.at_) :
    Calls Try.prog 32 #[v, .pointer (some ⟨L.bm, 0, none⟩), .agg #[.int .i64 r, .int .u64 (U e)]] w (Ret (.tuple #[v, .bool false]) w) := by
  obtain ⟨g, caps, rfl, hg, hc⟩ := hP
  have HM := Lib.hid hM
  have HDO := Lib.hid hd
  have hhi := hM.top
  clear hc hM hd hg
  have n0 : ∀ f x y w, (binOp .eql 77 (.func f x y) .nilFunc).run Try.prog w = .ok (.bool false) w := fun f x y w => eql_fn w fnU f x y
  show Calls Try.prog 32 #[.agg #[.int .u64 0, .int .i64 a.op, .int .i64 a.at_, .int .u64 (U a.a), .int .u64 (U a.b), .func (.func g) #[] caps, .pointer none], .pointer (some ⟨L.bm, 0, none⟩), .agg #[.int .i64 r, .int .u64 (U e)]] w _
  go_enter Try.func32, Try.ntmps32
  go_wp2_with (go_at_call 30; refine Hid.out ?_)
  refine Lib.hid ?_
  have hb3 := heap_at ((w.alloc (.cells #[.int .u64 0, .int .i64 a.op, .int .i64 a.at_, .int .u64 (U a.a), .int .u64 (U a.b), .func (.func g) #[] caps, .pointer none] 79)).alloc (.cells #[.int .i64 r, .int .u64 (U e)] 62)) (.cells #[.int .u64 0, .int .i64 0, .int .i64 0, .int .u64 0, .int .u64 0, .nilFunc, .pointer none] 79) (w.heap.size + 1 + 1) (by simp)
  have hb1 : (((w.alloc (.cells #[.int .u64 0, .int .i64 a.op, .int .i64 a.at_, .int .u64 (U a.a), .int .u64 (U a.b), .func (.func g) #[] caps, .pointer none] 79)).alloc (.cells #[.int .i64 r, .int .u64 (U e)] 62)).alloc (.cells #[.int .u64 0, .int .i64 0, .int .i64 0, .int .u64 0, .int .u64 0, .nilFunc, .pointer none] 79)).heap[w.heap.size]? = some (.cells #[.int .u64 0, .int .i64 a.op, .int .i64 a.at_, .int .u64 (U a.a), .int .u64 (U a.b), .func (.func g) #[] caps, .pointer none] 79) := by
    rw [Below.heap_alloc _ _ _ (by simp; omega), Below.heap_alloc _ _ _ (by simp)]
    exact heap_at w _ _ rfl
  have hEW : Ext w (((w.alloc (.cells #[.int .u64 0, .int .i64 a.op, .int .i64 a.at_, .int .u64 (U a.a), .int .u64 (U a.b), .func (.func g) #[] caps, .pointer none] 79)).alloc (.cells #[.int .i64 r, .int .u64 (U e)] 62)).alloc (.cells #[.int .u64 0, .int .i64 0, .int .i64 0, .int .u64 0, .int .u64 0, .nilFunc, .pointer none] 79)) := ext_alloc _ (ext_alloc _ (ext_alloc _ (ext_refl w)))
  generalize (((w.alloc (.cells #[.int .u64 0, .int .i64 a.op, .int .i64 a.at_, .int .u64 (U a.a), .int .u64 (U a.b), .func (.func g) #[] caps, .pointer none] 79)).alloc (.cells #[.int .i64 r, .int .u64 (U e)] 62)).alloc (.cells #[.int .u64 0, .int .i64 0, .int .i64 0, .int .u64 0, .int .u64 0, .nilFunc, .pointer none] 79)) = W at hb3 hb1 hEW ⊢
  refine (do_no (HM.out.ext hEW) r a.op a.at_ e a.a a.b HDO.out).mono ?_
  rintro e1 w1 ⟨rfl, hx⟩
  have hb31 := (hx.block _ (heap_lt hb3)).trans hb3
  have hb11 := (hx.block _ (heap_lt hb1)).trans hb1
  obtain ⟨c0, c1, c2, c3, c4, c5, c6, cz, ll⟩ := sev_of hb31
  obtain ⟨d0, d1, d2, d3, d4, d5, d6, dz, dl⟩ := sev_of hb11
  have hX := put7_ext (b := w.heap.size + 1 + 1) (.int .u64 0) (.int .i64 a.op) (.int .i64 a.at_) (.int .u64 (U a.a)) (.int .u64 (U a.b)) (.func (.func g) #[] caps) (.pointer none) (ext_trans hEW hx) (by omega)
  have hB := put7_block (.int .u64 0) (.int .i64 a.op) (.int .i64 a.at_) (.int .u64 (U a.a)) (.int .u64 (U a.b)) (.func (.func g) #[] caps) (.pointer none) hb31
  rw [put7] at hX hB
  have HX := Lib.hid hX
  have HB := Lib.hid hB
  clear hX hB hb3 hb1 hEW hx hb31 hb11
  go_wp2
  replace HX := HX.out
  replace HB := HB.out
  clear c0 c1 c2 c3 c4 c5 c6 cz ll
  generalize (World.setCell _ (⟨w.heap.size + 1 + 1, 6, none⟩ : Addr) _) = Z at HB HX ⊢
  obtain ⟨c0, c1, c2, c3, c4, c5, c6, cz, ll⟩ := sev_of HB
  exact bodyPost_ret (by simp only [results, Try.results32, go_sem]; simp [go_sem, c0, c1, c2, c3, c4, c5, c6, kU, vS]) rfl (Ret.mk HX)
set_option maxRecDepth 8000 in
set_option maxHeartbeats 2000000 in
theorem stepD_U (x : BitVec 64) (F : Nat → Prop) (v mv : Value) (r : Int) (e : BitVec 64) (w : World) (hP : PT kU (.done x) F v w) :
    Calls Try.prog 32 #[v, mv, .agg #[.int .i64 r, .int .u64 (U e)]] w (Ret (.tuple #[v, .bool false]) w) := by
  cases hP
  have n0 : ∀ w, (binOp .eql 77 .nilFunc .nilFunc).run Try.prog w = .ok (.bool true) w := fun w => eql_nil w fnU
  show Calls Try.prog 32 #[.agg #[.int .u64 (U x), .int .i64 accZ.op, .int .i64 accZ.at_, .int .u64 (U accZ.a), .int .u64 (U accZ.b), .nilFunc, .pointer none], mv, .agg #[.int .i64 r, .int .u64 (U e)]] w _
  go_enter Try.func32, Try.ntmps32
  go_wp2
  exact bodyPost_ret (by simp only [results, Try.results32, go_sem]; simp [go_sem, kU, vS]) rfl (Ret.mk (ext_alloc _ (ext_alloc _ (ext_alloc _ (ext_refl w)))))
theorem over_U (t : Tr (BitVec 64)) (F : Nat → Prop) (v : Value) (w : World) (hP : PT kU t F v w) (y : Int) (b : Bool) (hy : Hid (ansT kU t = .int .u64 y)) (hb : Hid (ovT t = b)) : Calls Try.prog 33 #[v] w (Ret (.tuple #[.int .u64 y, .bool b]) w) := by
  rw [← hb.out, ← hy.out]
  cases t with
  | done x => cases hP; exact overYU (U x) _ _ _ _ w
  | ask a f => obtain ⟨g, caps, rfl, _⟩ := hP; exact ovnU a _ _ _ w
  | more => obtain ⟨a, g, caps, rfl, _⟩ := hP; exact ovnU a _ _ _ w
theorem ans_U (t : Tr (BitVec 64)) : ∃ y, ansT kU t = .int .u64 y := by
  cases t with
  | done x => exact ⟨_, rfl⟩
  | ask a f => exact ⟨_, rfl⟩
  | more => exact ⟨_, rfl⟩
theorem stay_U {lo hi : Nat} {L : Lay} {M : MS} (t : Tr (BitVec 64)) (F : Nat → Prop) (v : Value) (r : Int) (e : BitVec 64) (w : World) (hP : PT kU t F v w) (hM : MemIn lo hi L M w) (hs : Stays r e M t) :
    Calls Try.prog 32 #[v, .pointer (some ⟨L.bm, 0, none⟩), .agg #[.int .i64 r, .int .u64 (U e)]] w (Ret (.tuple #[v, .bool false]) w) := by
  cases t with
  | done x => exact stepD_U x F v _ r e w hP
  | ask a f => exact stepR_U a f F v r e w hP hM hs
  | more => exact hs.elim
end Go.Proofs.Ytkjbfhcgldgkaaa

/-
  What the calls of Run come to (U). Conditions: those of each theorem.
-/
namespace Go.Proofs.Ytkjbfhcgldgkaaa
open Go Go.RowKit

structure RunN_U (lo hi : Nat) (L : Lay) (r : Int) (e : BitVec 64) (x : MS × Nat × Tr (BitVec 64)) (m : Nat) (B : Nat) (w : World) (n : Nat) (t : Tr (BitVec 64)) (M : MS) (v : Value) (F : Nat → Prop) (wr : World) : Prop where
  km : n ≤ m
  res : ∃ y, runT r e (m - n) t M = some y ∧ x = (y.1, y.2.1 + n, y.2.2)
  p : PT kU t F v wr
  bnd : Bnd F wr
  off : ∀ j, F j → (j < lo ∨ hi ≤ j) ∧ j ≠ B
  mem : MemIn lo hi L M wr
  fr : Fr lo hi w wr
  box : ∃ (y : Int) (a : Acc) (fn : Value), v = .agg #[.int .u64 y, .int .i64 a.op, .int .i64 a.at_, .int .u64 (U a.a), .int .u64 (U a.b), fn, .pointer none] ∧ (fn = .nilFunc ∨ ∃ g caps, fn = .func (.func g) #[] caps) ∧ wr.heap[B]? = some (.cells #[.int .u64 y, .int .i64 a.op, .int .i64 a.at_, .int .u64 (U a.a), .int .u64 (U a.b), fn, .pointer none] 79)
  cap : wr.heap[B + 1]? = some (.cells #[.int .i64 r, .int .u64 (U e)] 62)
def RunL_U (lo hi : Nat) (L : Lay) (r : Int) (e : BitVec 64) (x : MS × Nat × Tr (BitVec 64)) (m : Nat) (B : Nat) (w : World) (i : Value) (wr : World) : Prop :=
  ∃ (n : Nat) (t : Tr (BitVec 64)) (M : MS) (v : Value) (F : Nat → Prop), i = .int .i64 (n : Int) ∧ RunN_U lo hi L r e x m B w n t M v F wr
set_option maxRecDepth 8000 in
set_option maxHeartbeats 4000000 in
theorem run_U {lo hi : Nat} {L : Lay} {M : MS} (t : Tr (BitVec 64)) (F : Nat → Prop) (v : Value) (r : Int) (e : BitVec 64) (most : Int) (w : World) (x : MS × Nat × Tr (BitVec 64)) (hmo : most ≤ 1099511627776) (hx : runT r e most.toNat t M = some x) (hP : PT kU t F v w) (hF : Bnd F w) (hO : ∀ j, F j → j < lo ∨ hi ≤ j) (hM : MemIn lo hi L M w) :
    Calls Try.prog 35 #[v, .pointer (some ⟨L.bm, 0, none⟩), .agg #[.int .i64 r, .int .u64 (U e)], .int .i64 most] w (RetR kU lo hi L x w) := by
  have HP := Lib.hid hP
  have HM := Lib.hid hM
  have hhi := hM.top
  obtain ⟨y, a, fn, rfl, hfn⟩ := shU hP
  have HFN := Lib.hid hfn
  clear hfn hP hM
  have HI : Hid (RunN_U lo hi L r e x most.toNat w.heap.size w 0 t M (.agg #[.int .u64 y, .int .i64 a.op, .int .i64 a.at_, .int .u64 (U a.a), .int .u64 (U a.b), fn, .pointer none]) F ((w.alloc (.cells #[.int .u64 y, .int .i64 a.op, .int .i64 a.at_, .int .u64 (U a.a), .int .u64 (U a.b), fn, .pointer none] 79)).alloc (.cells #[.int .i64 r, .int .u64 (U e)] 62))) := by
    refine Lib.hid ⟨Nat.zero_le _, ⟨x, hx, rfl⟩, ?_, ?_, fun j hj => ⟨hO j hj, fun h => by have := hF j hj; omega⟩, ?_, ?_, ⟨y, a, fn, rfl, HFN.out, ?_⟩, ?_⟩
    · exact HP.out.agr (Agr.of_ext (by repeat (first | exact ext_refl _ | apply ext_alloc)) hF)
    · exact hF.ext (by simp; omega)
    · exact HM.out.ext (by repeat (first | exact ext_refl _ | apply ext_alloc))
    · exact .of_ext (by repeat (first | exact ext_refl _ | apply ext_alloc))
    · rw [Below.heap_alloc _ _ _ (by simp)]
      exact heap_at w _ _ rfl
    · exact heap_at _ _ _ (by simp)
  clear HP HM hF hO hx
  go_enter Try.func35, Try.ntmps35
  go_wp2
  go_loopw [11] (fun i wr => RunL_U lo hi L r e x most.toNat w.heap.size w i wr) (fun i _ => (most - intOf i).toNat)
  case atStart => exact ⟨0, _, _, _, _, rfl, HI.out⟩
  case round =>
    obtain ⟨n, t', M', v, F', rfl, hR⟩ := hrel
    have HR := Lib.hid hR
    obtain ⟨y1, a1, fn1, rfl, hfn1, hblk⟩ := hR.box
    have HFN1 := Lib.hid hfn1
    have HBK := Lib.hid hblk
    obtain ⟨c0, c1, c2, c3, c4, c5, c6, cz, ll⟩ := sev_of hblk
    have cp0 := cell_at (o := 0) hR.cap rfl
    have cp1 := cell_at (o := 1) hR.cap rfl
    have lp := heap_lt hR.cap
    have hsz := hR.fr.size
    have hkm := hR.km
    clear hR hfn1 hblk HI HFN
    by_cases hlt : (n : Int) < most
    · by_cases hst : Stays r e M' t'
      · have hE : x = (M', n, t') := by
          obtain ⟨y', h1, h2⟩ := HR.out.res
          rw [runT_stays hst] at h1
          cases h1
          simpa using h2
        have HE := Lib.hid hE
        have HST := Lib.hid hst
        clear hE hst
        obtain ⟨z1, hz1⟩ := ans_U t'
        have HZ1 := Lib.hid hz1
        clear hz1
        rcases HFN1.out with rfl | ⟨g', caps', rfl⟩
        all_goals
          go_wp2_with (first
            | (go_at_call 32; refine (stay_U t' F' _ r e _ HR.out.p HR.out.mem HST.out).mono ?_; rintro e1 w1 ⟨rfl, hx⟩; have HX := Lib.hid hx; clear hx; have c0 := ext_cell HX.out c0; have c1 := ext_cell HX.out c1; have c2 := ext_cell HX.out c2; have c3 := ext_cell HX.out c3; have c4 := ext_cell HX.out c4; have c5 := ext_cell HX.out c5; have c6 := ext_cell HX.out c6; have ll1 := Nat.lt_of_lt_of_le ll HX.out.size)
            | (go_at_call 33; refine (over_U t' F' _ _ (HR.out.p.agr (Agr.of_ext (ext_trans HX.out (by repeat (first | exact ext_refl _ | apply ext_alloc))) HR.out.bnd)) z1 _ HZ1 (Lib.hid rfl)).mono ?_; rintro e1 w1' ⟨rfl, hx⟩; replace hx := ext_trans (ext_trans HX.out (by repeat (first | exact ext_refl _ | apply ext_alloc))) hx))
          exact bodyPost_ret (v := .tuple #[.int .u64 z1, .int .i64 (n : Int), .bool (ovT t')]) (by simp [results, Try.results35, go_sem]) rfl (by rw [HE.out]; exact ⟨by rw [← HZ1.out], HR.out.mem.ext (by first | exact hx | exact ext_trans hx (by repeat (first | exact ext_refl _ | apply ext_alloc))), HR.out.fr.ext (by first | exact hx | exact ext_trans hx (by repeat (first | exact ext_refl _ | apply ext_alloc)))⟩)
      · have hE : ∃ a f, t' = .ask a f ∧ DoOk M' r e a.op a.at_ := by
          obtain ⟨y', h1, h2⟩ := HR.out.res
          rw [show most.toNat - n = (most.toNat - (n + 1)) + 1 by omega] at h1
          cases t' with
          | done x => exact (hst trivial).elim
          | ask a f => exact ⟨a, f, rfl, by by_cases hd : DoOk M' r e a.op a.at_; exact hd; exact (hst hd).elim⟩
          | more => simp [runT] at h1
        obtain ⟨a3, f3, rfl, hd⟩ := hE
        have HD := Lib.hid hd
        obtain ⟨x3, hx3⟩ : ∃ x3, Hid (M'.wd r.toNat a3.at_.toNat = x3) := ⟨_, Lib.hid rfl⟩
        clear hd hst
        go_wp2_with (go_at_call 32; refine (stepA_U a3 f3 F' _ r e _ HR.out.p HR.out.bnd (fun j hj => (HR.out.off j hj).1) HR.out.mem HD.out x3 hx3).mono ?_; rintro e1 w1 ⟨v2, F2, rfl, hp, hbn, hsub, hm, hf⟩; refine Hid.out ?_)
        refine Lib.hid ?_
        have hs1 := hf.size
        have hB1 := (hf.block _ ll (.inr hhi)).trans HBK.out
        have hC1 := (hf.block _ lp (.inr (by omega))).trans HR.out.cap
        obtain ⟨y2, a2, fn2, rfl, hfn2⟩ := shU hp
        have HFN2 := Lib.hid hfn2
        clear c0 c1 c2 c3 c4 c5 c6 cz cp0 cp1 hfn2
        obtain ⟨c0, c1, c2, c3, c4, c5, c6, cz, ll1⟩ := sev_of hB1
        have HS : Hid (∀ o, RunN_U lo hi L r e x most.toNat w.heap.size w (n + 1) (f3 x3) (M'.done r a3.op a3.at_ a3.a a3.b) (.agg #[.int .u64 y2, .int .i64 a2.op, .int .i64 a2.at_, .int .u64 (U a2.a), .int .u64 (U a2.b), fn2, .pointer none]) F2 ((put7 w.heap.size (.int .u64 y2) (.int .i64 a2.op) (.int .i64 a2.at_) (.int .u64 (U a2.a)) (.int .u64 (U a2.b)) (fn2) (.pointer none) w1).alloc o)) := by
          refine Lib.hid fun o => ⟨by omega, ?_, ?_, ?_, ?_, ?_, ?_, ⟨y2, a2, fn2, rfl, HFN2.out, ?_⟩, ?_⟩
          · obtain ⟨y', h1, h2⟩ := HR.out.res
            rw [show most.toNat - n = (most.toNat - (n + 1)) + 1 by omega, runT, if_pos HD.out, hx3.out] at h1
            obtain ⟨y3, h3, h4⟩ := Option.map_eq_some_iff.1 h1
            subst h4
            exact ⟨y3, h3, by rw [h2]; simp; omega⟩
          · have hnB : ¬ F2 w.heap.size := fun h => by
              rcases hsub _ h with h | h
              · exact (HR.out.off _ h).2 rfl
              · omega
            exact (hp.agr (Agr.of_put7 _ _ _ _ _ _ _ hnB)).agr (Agr.of_ext (ext_alloc o (ext_refl _)) (hbn.ext (by rw [put7_size]; exact Nat.le_refl _)))
          · exact hbn.ext (by simp [put7_size])
          · intro j hj
            rcases hsub j hj with h | h
            · exact HR.out.off j h
            · exact ⟨.inr (by omega), by omega⟩
          · exact (put7_mem _ _ _ _ _ _ _ hm hhi).alloc o
          · exact (put7_frNew _ _ _ _ _ _ _ (HR.out.fr.trans hf) (Nat.le_refl _)).alloc o
          · exact (Below.heap_alloc _ _ _ (by rw [put7_size]; exact ll1)).trans (put7_block _ _ _ _ _ _ _ hB1)
          · rw [Below.heap_alloc _ _ _ (by rw [put7_size]; exact heap_lt hC1), put7_other _ _ _ _ _ _ _ (by omega)]
            exact hC1
        rw [put7] at HS
        clear hp hm hf hB1 hC1 HD hbn hsub
        rcases HFN2.out with rfl | ⟨g', caps', rfl⟩
        all_goals
          go_wp2
          exact ⟨⟨n + 1, _, _, _, _, by go_num, HS.out _⟩, by simp [intOf]; omega⟩
    · have hE : x = (M', n, t') := by
        obtain ⟨y', h1, h2⟩ := HR.out.res
        rw [show most.toNat - n = 0 by omega, runT] at h1
        cases h1
        simpa using h2
      have HE := Lib.hid hE
      clear hE
      obtain ⟨z1, hz1⟩ := ans_U t'
      have HZ1 := Lib.hid hz1
      clear hz1
      rcases HFN1.out with rfl | ⟨g', caps', rfl⟩
      all_goals
        go_wp2_with (go_at_call 33; refine (over_U t' F' _ _ HR.out.p z1 _ HZ1 (Lib.hid rfl)).mono ?_; rintro e1 w1 ⟨rfl, hx⟩)
        exact bodyPost_ret (v := .tuple #[.int .u64 z1, .int .i64 (n : Int), .bool (ovT t')]) (by simp [results, Try.results35, go_sem]) rfl (by rw [HE.out]; exact ⟨by rw [← HZ1.out], HR.out.mem.ext (by first | exact hx | exact ext_trans hx (by repeat (first | exact ext_refl _ | apply ext_alloc))), HR.out.fr.ext (by first | exact hx | exact ext_trans hx (by repeat (first | exact ext_refl _ | apply ext_alloc)))⟩)
end Go.Proofs.Ytkjbfhcgldgkaaa

/-
  Places of fields; a Guard that is run alone, in plain numbers and as a call; what a program asks next. Conditions: a formed plan; a place that is no hazard.
-/
namespace Go.Proofs.Ytkjbfhcgldgkaaa
open Go Go.RowKit

theorem fd_place {p : Pl} (hp : p.ok) {n f : Int} (hn : InR p n) (h0 : 0 ≤ f) (h1 : f < 3) : 0 ≤ p.fdF n f ∧ p.fdF n f < p.sizeF ∧ ∀ i : Nat, (i : Int) < 3 * p.t → (p.fdF n f).toNat ≠ hzN p i := by
  have e : p.fdF n f = p.nod n + 2 + f := by unfold Pl.fdF; rw [if_pos ⟨hp, hn, h0, h1⟩]
  have hs : p.sizeF = p.nod p.n := by unfold Pl.sizeF; rw [if_pos hp]
  have hz := haz_size hp (i := 0) (by omega) (by have := hp.2.1; omega)
  have e1 : p.nod n = p.nod 0 + n * 5 := by unfold Pl.nod; omega
  have e2 : p.nod p.n = p.nod 0 + p.n * 5 := by unfold Pl.nod; omega
  have h2 := hn.1
  have h3 := hn.2
  have hd := Pl.dom_in hp (Pl.d_in hp).1 (Pl.d_in hp).2
  refine ⟨by omega, by omega, fun i hi => ?_⟩
  have h4 := haz_size hp (i := (i : Int)) (by omega) hi
  unfold hzN
  omega
theorem hzW_at {p : Pl} (hp : p.ok) (M : MS) {t s : Int} (h0 : 0 ≤ t) (h1 : t < p.t) (h2 : 0 ≤ s) (h3 : s < 3) : M.wd 0 (p.hazF t s).toNat = hzW p M (3 * t + s).toNat := by
  rw [(hazF_eq hp h0 h1 h2 h3).2]
  rfl
theorem haz_rg {p : Pl} (hp : p.ok) {t s : Int} (h0 : 0 ≤ t) (h1 : t < p.t) (h2 : 0 ≤ s) (h3 : s < 3) : 0 ≤ p.hazF t s ∧ p.hazF t s < p.sizeF := by
  have e := (hazF_eq hp h0 h1 h2 h3).1
  have h := haz_size hp (i := 3 * t + s) (by omega) (by omega)
  omega
/-- A guard that is run alone. -/
theorem grd_alone {p : Pl} (hp : p.ok) {M : MS} (hM : Mg p M) {t s at_ : Int} (h0 : 0 ≤ t) (h1 : t < p.t) (h2 : 0 ≤ s) (h3 : s < 3) (ha0 : 0 ≤ at_) (ha1 : at_ < p.sizeF) (ha : ∀ i : Nat, (i : Int) < 3 * p.t → at_.toNat ≠ hzN p i) (sh : Nat) (x : BitVec 64) (hx : M.wd 0 at_.toNat = x) :
    ∃ M' c, runT 0 1#64 9 (grdT p t s at_ sh 6) M = some (M', c, .done x) ∧ Mg p M' ∧ (x >>> sh = 0#64 → c = 1 ∧ hzW p M' (3 * t + s).toNat = hzW p M (3 * t + s).toNat) ∧ (x >>> sh ≠ 0#64 → c = 3 ∧ hzW p M' (3 * t + s).toNat = x >>> sh) := by
  obtain ⟨N1, n1, n2, g1, _⟩ := go_g hp hM h0 h1 h2 h3 ha0 ha1 sh 5 .ld rfl
  have w1 := gst_words hp hM h0 h1 h2 h3 ha sh .ld
  rw [hx] at g1 w1
  generalize M.done 0 (GS.ld.acc p t s at_ sh).op (GS.ld.acc p t s at_ sh).at_ (GS.ld.acc p t s at_ sh).a (GS.ld.acc p t s at_ sh).b = M1 at g1 w1
  have r1 := runT_gstep g1 8
  rw [show grdT p t s at_ sh 6 = gdT p t s at_ sh (5 + 1) .ld from rfl, r1]
  by_cases hz : x >>> sh = 0#64
  · have e : GS.ld.aft sh x = .dn x := by show gnx sh x = _; unfold gnx; rw [if_pos hz]
    rw [e]
    exact ⟨M1, 1, rfl, w1.1.mg, fun _ => ⟨rfl, w1.1.hz _ (by omega)⟩, fun h => (h hz).elim⟩
  · have e : GS.ld.aft sh x = .st x := by show gnx sh x = _; unfold gnx; rw [if_neg hz]
    rw [e]
    obtain ⟨K1, rfl⟩ : ∃ K, N1 = K + 1 := ⟨N1 - 1, by omega⟩
    obtain ⟨N2, n3, n4, g2, _⟩ := go_g hp w1.1.mg h0 h1 h2 h3 ha0 ha1 sh K1 (.st x) rfl
    have w2 := gst_words hp w1.1.mg h0 h1 h2 h3 ha sh (.st x)
    rw [w1.2] at g2 w2
    generalize M1.done 0 ((GS.st x).acc p t s at_ sh).op ((GS.st x).acc p t s at_ sh).at_ ((GS.st x).acc p t s at_ sh).a ((GS.st x).acc p t s at_ sh).b = M2 at g2 w2
    rw [show (8 : Nat) = 7 + 1 from rfl, runT_gstep g2 7]
    obtain ⟨K2, rfl⟩ : ∃ K, N2 = K + 1 := ⟨N2 - 1, by omega⟩
    obtain ⟨N3, n5, n6, g3, _⟩ := go_g hp w2.1.mg h0 h1 h2 h3 ha0 ha1 sh K2 (.rl x) rfl
    have w3 := gst_words hp w2.1.mg h0 h1 h2 h3 ha sh (.rl x)
    rw [w2.2] at g3 w3
    generalize M2.done 0 ((GS.rl x).acc p t s at_ sh).op ((GS.rl x).acc p t s at_ sh).at_ ((GS.rl x).acc p t s at_ sh).a ((GS.rl x).acc p t s at_ sh).b = M3 at g3 w3
    rw [show (GS.st x).aft sh x = .rl x from rfl, show (7 : Nat) = 6 + 1 from rfl, runT_gstep g3 6]
    have e3 : (GS.rl x).aft sh x = .dn x := by show (if x = x then GS.dn x else gnx sh x) = _; rw [if_pos rfl]
    rw [e3]
    refine ⟨M3, 3, rfl, w3.1.mg, fun h => (hz h).elim, fun _ => ⟨rfl, ?_⟩⟩
    rw [w3.1.hz _ (by omega)]
    show hzW p M2 _ = _
    rw [w2.1.hz _ (by omega)]
    simp
def RetGrdH (p : Pl) (lo hi : Nat) (L : Lay) (M : MS) (i sh : Nat) (x : BitVec 64) (w : World) (e : Ending) (w' : World) : Prop :=
  ∃ (M' : MS) (c : Nat), e = .returned (.tuple #[.int .u64 (U x), .int .i64 (c : Int), .bool true]) ∧ MemIn lo hi L M' w' ∧ Fr lo hi w w' ∧ Mg p M' ∧ (x >>> sh = 0#64 → c = 1 ∧ hzW p M' i = hzW p M i) ∧ (x >>> sh ≠ 0#64 → c = 3 ∧ hzW p M' i = x >>> sh)
theorem runGrdH {lo hi : Nat} {L : Lay} {M : MS} (p : Pl) (hp : p.ok) (hG : Mg p M) (t s at_ : Int) (sh : Nat) (x : BitVec 64) (h0 : 0 ≤ t) (h1 : t < p.t) (h2 : 0 ≤ s) (h3 : s < 3) (ha0 : 0 ≤ at_) (ha1 : at_ < p.sizeF) (ha : ∀ i : Nat, (i : Int) < 3 * p.t → at_.toNat ≠ hzN p i) (hx : M.wd 0 at_.toNat = x) (F : Nat → Prop) (v : Value) (w : World) (hP : PT kU (grdT p t s at_ sh 6) F v w) (hF : Bnd F w) (hO : ∀ j, F j → j < lo ∨ hi ≤ j) (hM : MemIn lo hi L M w) :
    Calls Try.prog 35 #[v, .pointer (some ⟨L.bm, 0, none⟩), .agg #[.int .i64 0, .int .u64 (U 1#64)], .int .i64 9] w (RetGrdH p lo hi L M (3 * t + s).toNat sh x w) := by
  obtain ⟨M', c, r1, r2, r3, r4⟩ := grd_alone hp hG h0 h1 h2 h3 ha0 ha1 ha sh x hx
  exact (run_U (grdT p t s at_ sh 6) F v 0 1#64 9 w _ (by omega) r1 hP hF hO hM).mono fun e w' ⟨g1, g2, g3⟩ => ⟨M', c, g1, g2, g3, r2, r3, r4⟩
set_option maxRecDepth 8000 in
set_option maxHeartbeats 1000000 in
/-- What a program asks next. -/
theorem access_U (a : Acc) (f : BitVec 64 → Tr (BitVec 64)) (F : Nat → Prop) (v : Value) (w : World) (hP : PT kU (.ask a f) F v w) :
    Calls Try.prog 31 #[v] w (Ret (.tuple #[.agg #[.int .i64 a.op, .int .i64 a.at_, .int .u64 (U a.a), .int .u64 (U a.b)], .bool true]) w) := by
  obtain ⟨g, caps, rfl, _⟩ := hP
  have n0 : ∀ f x y w, (binOp .neq 77 (.func f x y) .nilFunc).run Try.prog w = .ok (.bool true) w := fun f x y w => neq_fn w fnU f x y
  show Calls Try.prog 31 #[.agg #[.int .u64 0, .int .i64 a.op, .int .i64 a.at_, .int .u64 (U a.a), .int .u64 (U a.b), .func (.func g) #[] caps, .pointer none]] w _
  go_enter Try.func31, Try.ntmps31
  go_wp2
  go_region
  all_goals (try go_wp2)
  exact bodyPost_ret (v := .tuple #[.agg #[.int .i64 a.op, .int .i64 a.at_, .int .u64 (U a.a), .int .u64 (U a.b)], .bool true]) (by simp [results, Try.results31, go_sem]) rfl (Ret.mk (ext_drew (ext_alloc _ (ext_alloc _ (ext_refl w)))))
end Go.Proofs.Ytkjbfhcgldgkaaa

/-
  The law HazardStays, walked. Conditions: those of each theorem.
-/
namespace Go.Proofs.Ytkjbfhcgldgkaaa
open Go Go.RowKit

theorem w40 (x : BitVec 64) : Int.tmod (U x) 1099511627776 = U (BitVec.ofNat 64 (x.toNat % 1099511627776)) ∧ U (BitVec.ofNat 64 (x.toNat % 1099511627776)) < 1099511627776 := by
  rw [U_toNat, U_toNat, BitVec.toNat_ofNat]
  have h : (x.toNat : Int) = ((x.toNat : Nat) : Int) := rfl
  rw [Int.tmod_eq_emod_of_nonneg (by omega)]
  omega
set_option maxRecDepth 8000 in
set_option maxHeartbeats 4000000 in
theorem stays_any (p : Pl) (t s : Int) (x : BitVec 64) (w : World) : Calls Try.prog 6 #[.agg #[.int .i64 p.n, .int .i64 p.t, .int .i64 p.r, .int .i64 p.d, .int .i64 p.b, .int .i64 p.g, .int .i64 t, .int .i64 s, .int .u64 (U x)]] w (Ret (.bool true) w) := by
  go_enter Try.func6, Try.ntmps6
  go_wp2
  have hE : Ext w (w.alloc (.cells #[.int .i64 p.n, .int .i64 p.t, .int .i64 p.r, .int .i64 p.d, .int .i64 p.b, .int .i64 p.g, .int .i64 t, .int .i64 s, .int .u64 (U x)] 93)) := ext_alloc _ (ext_refl w)
  have hb : (w.alloc (.cells #[.int .i64 p.n, .int .i64 p.t, .int .i64 p.r, .int .i64 p.d, .int .i64 p.b, .int .i64 p.g, .int .i64 t, .int .i64 s, .int .u64 (U x)] 93)).heap[w.heap.size]? = some (.cells #[.int .i64 p.n, .int .i64 p.t, .int .i64 p.r, .int .i64 p.d, .int .i64 p.b, .int .i64 p.g, .int .i64 t, .int .i64 s, .int .u64 (U x)] 93) := heap_at w _ _ rfl
  generalize w.alloc (.cells #[.int .i64 p.n, .int .i64 p.t, .int .i64 p.r, .int .i64 p.d, .int .i64 p.b, .int .i64 p.g, .int .i64 t, .int .i64 s, .int .u64 (U x)] 93) = W at hE hb ⊢
  have c0 := cell_at (o := 0) hb rfl
  have c1 := cell_at (o := 1) hb rfl
  have c2 := cell_at (o := 2) hb rfl
  have c3 := cell_at (o := 3) hb rfl
  have c4 := cell_at (o := 4) hb rfl
  have c5 := cell_at (o := 5) hb rfl
  have c6 := cell_at (o := 6) hb rfl
  have c7 := cell_at (o := 7) hb rfl
  have c8 := cell_at (o := 8) hb rfl
  simp only [List.getElem_toArray, List.getElem_cons_zero, List.getElem_cons_succ] at c0 c1 c2 c3 c4 c5 c6 c7 c8
  have hlt := heap_lt hb
  replace hE := Lib.hid hE
  clear hb
  refine wp_region_mix (fun w' => ∃ s, w' = over W s) [(0, [0, 1, 2, 3, 4, 5, 6, 7]), (1, [8]), (1, [9]), (0, [10, 11, 12])] (by kernel_rfl) (by kernel_rfl) (over_of (ext_drew (ext_refl W))) ?_
  simp only [pieces, pickL, List.map_cons, List.map_nil, List.getD_cons_zero, List.getD_cons_succ]
  refine mix_reads ?_
  repeat (go_big_quiet_step (fail))
  refine wpQuiet_nil (mix_acts ?_)
  have HX := Lib.hid (ext_drew (ext_refl W))
  have hsx : W.heap.size ≤ W.drew.heap.size := Nat.le_refl _
  generalize W.drew = X at HX hsx ⊢
  go_wp2
  have HX2 := Lib.hid (ext_alloc (.cells #[.int .i64 0, .int .i64 0, .int .i64 0, .int .i64 0, .int .i64 0, .int .i64 0] 23) HX.out)
  have hbx := Lib.hid (heap_at X (.cells #[.int .i64 0, .int .i64 0, .int .i64 0, .int .i64 0, .int .i64 0, .int .i64 0] 23) X.heap.size rfl)
  generalize X.alloc (.cells #[.int .i64 0, .int .i64 0, .int .i64 0, .int .i64 0, .int .i64 0, .int .i64 0] 23) = X2 at HX2 hbx ⊢
  generalize X.heap.size = bx at hbx hsx ⊢
  refine mixQ_mk (over_of HX2.out) (mix_acts ?_)
  obtain ⟨k0, k1, k2, k3, k4, k5, kz, kl⟩ := six_of hbx.out
  have hB := put6_block (.int .i64 p.n) (.int .i64 p.t) (.int .i64 p.r) (.int .i64 p.d) (.int .i64 p.b) (.int .i64 p.g) hbx.out
  have hXX := put6_ext (b := bx) (.int .i64 p.n) (.int .i64 p.t) (.int .i64 p.r) (.int .i64 p.d) (.int .i64 p.b) (.int .i64 p.g) HX2.out hsx
  rw [put6] at hB hXX
  replace hB := Lib.hid hB
  replace hXX := Lib.hid hXX
  go_wp2
  refine mixQ_mk (over_of hXX.out) (mix_reads ?_)
  repeat (go_big_quiet_step (fail))
  refine wpQuiet_nil (mix_end ?_)
  have hB2 := hB.out
  have hXX2 := hXX.out
  clear hB hXX HX HX2 hbx k0 k1 k2 k3 k4 k5 kz kl c0 c1 c2 c3 c4 c5 c6 c7 c8
  generalize (World.setCell _ (⟨bx, 5, none⟩ : Addr) _) = Z at hXX2 hB2 ⊢
  have HE := Lib.hid (ext_trans hE.out hXX2)
  have HB := Lib.hid (show PBox bx p Z from hB2)
  have ⟨c0, c1, c2, c3, c4, c5, lt⟩ := HB.out.plc
  have hwb : w.heap.size ≤ bx := Nat.le_trans hE.out.size hsx
  clear hB2 hXX2 hE hlt hsx
  by_cases hf : FitsP p t s 0
  · have HFT := Lib.hid hf
    have HP := Lib.hid hf.2.1
    have hb0 := hf.2.2.1
    have hb1 := hf.2.2.2.1
    have hb2 := hf.2.2.2.2.1
    have hb3 := hf.2.2.2.2.2.1
    clear hf
    go_wp2_with (first
      | (go_at_call 17; refine (hwake_any _).mono ?_; rintro e w' hr; obtain ⟨rfl, sA, rfl⟩ := hr.over; clear hr)
      | (go_at_call 18; refine (fits_any p t s 0 _ true (hid_yes HFT.out)).mono ?_; rintro e w' hr; obtain ⟨rfl, sA, rfl⟩ := hr.over; clear hr)
      | (go_at_call 12; refine Hid.out ?_))
    refine Lib.hid ?_
    refine (laidZ_any p HP.out _).mono ?_
    rintro e w1 ⟨lo, hi, L, M, rfl, hM, hF, hx, hlo⟩
    have hx1 : Ext Z w1 := by
      refine ext_trans ?_ hx
      repeat (first | exact ext_refl _ | apply ext_over)
    have hlo1 : bx < lo := by
      refine Nat.lt_of_lt_of_le (Nat.lt_of_lt_of_le lt ?_) hlo
      first | exact over_size _ _ | exact Nat.le_trans (over_size _ _) (over_size _ _) | exact Nat.le_trans (over_size _ _) (Nat.le_trans (over_size _ _) (over_size _ _))
    have hhi := hM.top
    have HI := Lib.hid (HIn.mk hM hF.1.mg (ext_trans HE.out hx1) (HB.out.ext hx1))
    have HZ := Lib.hid hF.2
    clear hM hF hx hx1 hlo c0 c1 c2 c3 c4 c5 lt HB HE
    have ⟨c0, c1, c2, c3, c4, c5, lt⟩ := HI.out.pb.plc
    have hn1 := HP.out.1.1
    obtain ⟨at_, hat⟩ : ∃ a, Hid (p.fdF 0 1 = a) := ⟨_, Lib.hid rfl⟩
    have hpl := fd_place HP.out (n := 0) (f := 1) ⟨by omega, by omega⟩ (by omega) (by omega)
    rw [hat.out] at hpl
    have hat0 := hpl.1
    have hat1 := hpl.2.1
    have hat2 := Lib.hid hpl.2.2
    obtain ⟨x2, hx2⟩ : ∃ y, Hid (BitVec.ofNat 64 (x.toNat % 1099511627776) = y) := ⟨_, Lib.hid rfl⟩
    have h40 := w40 x
    rw [hx2.out] at h40
    have e40 := h40.1
    have b40 := h40.2
    have hG : ∀ W, Calls Try.prog 29 #[plV p, .int .i64 t, .int .i64 s, .int .i64 at_, .int .i64 1] W (RetP (PT kU (grdT p t s at_ 1 6)) noF W) := fun W => hguard_PT p t s at_ 1 (by omega) 6 W
    have hN : ∀ W, Calls Try.prog 34 #[.int .u64 (U x2), .int .i64 1] W (Ret (.int .i64 (U (x2 >>> 1) - 1)) W) := fun W => rnamed_any x2 1 (by omega) (by omega) W
    replace hG := Lib.hid hG
    obtain ⟨nn, hnn⟩ : ∃ y, Hid (U (x2 >>> 1) - 1 = y) := ⟨_, Lib.hid rfl⟩
    rw [hnn.out] at hN
    replace hN := Lib.hid hN
    clear hpl h40 hx2
    go_wp2_with (go_at_call 28; refine (field_is p 0 1 _ at_ hat).mono ?_; rintro e w2 ⟨rfl, hx⟩; refine Hid.out ?_)
    refine Lib.hid ?_
    have HI2 := Lib.hid (HI.out.ext hx)
    clear hx HI c0 c1 c2 c3 c4 c5 lt
    have ⟨c0, c1, c2, c3, c4, c5, lt⟩ := HI2.out.pb.plc
    go_wp2_with (go_at_call 21; refine (cap_int HI2.out.m 0 1#64 (by omega) (by rw [HI2.out.mg.n]; omega) (Lib.hid HI2.out.mg.e)).mono ?_; rintro e w3 ⟨rfl, hx3⟩; refine Hid.out ?_)
    refine Lib.hid ?_
    have HI3 := Lib.hid (HI2.out.ext hx3)
    clear hx3
    go_wp2_with (go_at_call 30; refine (do_int HI3.out.m 0 1 at_ _ _ 0 _ 1#64 x2 0#64 _ rfl rfl U_0.symm (HI3.out.mg.ok hat0 hat1 (by omega) (by omega)) (Lib.hid rfl) (Lib.hid rfl)).mono ?_; rintro e w4 ⟨rfl, hm4, hf4⟩; refine Hid.out ?_)
    refine Lib.hid ?_
    obtain ⟨M1, hM1⟩ : ∃ X, Hid (M.done 0 1 at_ x2 0#64 = X) := ⟨_, Lib.hid rfl⟩
    have hwd : ∀ j, M1.wd 0 j = if j = at_.toNat then x2 else M.wd 0 j := fun j => by rw [← hM1.out]; exact wd_store M at_ x2 0#64 j
    have hmg1 : Mg p M1 := by rw [← hM1.out]; exact HI3.out.mg.done _ _ _ _ _
    rw [hM1.out] at hm4
    have HI4 := Lib.hid (HI3.out.ran hm4 hf4 hmg1 (by omega) hlo1)
    have hxw : M1.wd 0 at_.toNat = x2 := by rw [hwd, if_pos rfl]
    have hzw : hzW p M1 (3 * t + s).toNat = 0#64 := by
      show M1.wd 0 (hzN p (3 * t + s).toNat) = _
      rw [hwd, if_neg fun h => hat2.out _ (by omega) h.symm]
      exact hz_zero HP.out HZ.out (by omega)
    replace hxw := Lib.hid hxw
    replace hzw := Lib.hid hzw
    clear hm4 hf4 hwd hmg1 hM1 HI2 HI3 HZ c0 c1 c2 c3 c4 c5 lt
    have ⟨c0, c1, c2, c3, c4, c5, lt⟩ := HI4.out.pb.plc
    go_wp2_with (go_at_call 29; refine (hG.out _).mono ?_; rintro e w5 ⟨v1, F1, rfl, hx2, hp1, hbn1, hsub1⟩; refine Hid.out ?_)
    refine Lib.hid ?_
    have HOF1 := Lib.hid (fun j (hj : F1 j) => (hsub1 j hj).elim (fun h => h.elim) fun h => (.inr (Nat.le_trans HI4.out.m.top h) : j < lo ∨ hi ≤ j))
    have HI5 := Lib.hid (HI4.out.ext hx2)
    have HP1 := Lib.hid hp1
    have HBN1 := Lib.hid hbn1
    clear hx2 hp1 hbn1 hsub1
    go_wp2_with (go_at_call 21; refine (cap_int HI5.out.m 0 1#64 (by omega) (by rw [HI5.out.mg.n]; omega) (Lib.hid HI5.out.mg.e)).mono ?_; rintro e w6 ⟨rfl, hx3⟩; refine Hid.out ?_)
    refine Lib.hid ?_
    have HI6 := Lib.hid (HI5.out.ext hx3)
    replace HP1 := Lib.hid (HP1.out.agr (Agr.of_ext hx3 HBN1.out))
    replace HBN1 := Lib.hid (HBN1.out.ext hx3.size)
    clear hx3
    go_wp2_with (go_at_call 35; refine (runGrdH p HP.out HI6.out.mg t s at_ 1 x2 hb0 hb1 hb2 hb3 hat0 hat1 hat2.out hxw.out F1 v1 w6 HP1.out HBN1.out HOF1.out HI6.out.m).mono ?_; rintro e w7 ⟨M2, c, rfl, hm7, hf7, hg7, hz7, hy7⟩; refine Hid.out ?_)
    refine Lib.hid ?_
    have HI7 := Lib.hid (HI6.out.ran hm7 hf7 hg7 (by omega) hlo1)
    have HZ7 := Lib.hid hz7
    have HY7 := Lib.hid hy7
    clear hm7 hf7 hg7 hz7 hy7 HP1 HBN1 HOF1 HI5 HI6 HI4 c0 c1 c2 c3 c4 c5 lt
    go_wp2_with (go_at_call 34; refine (hN.out _).mono ?_; rintro e w8 ⟨rfl, hx8⟩; refine Hid.out ?_)
    refine Lib.hid ?_
    have HI8 := Lib.hid (HI7.out.ext hx8)
    clear hx8 HI7
    have ⟨c0, c1, c2, c3, c4, c5, lt⟩ := HI8.out.pb.plc
    obtain ⟨hp_, hhp⟩ : ∃ a, Hid (p.hazF t s = a) := ⟨_, Lib.hid rfl⟩
    have hrg := haz_rg HP.out hb0 hb1 hb2 hb3
    have hza := hzW_at HP.out M2 hb0 hb1 hb2 hb3
    rw [hhp.out] at hrg hza
    have hr0 : (0 : Int) < M2.n := by rw [HI8.out.mg.n]; omega
    have hr1 : hp_ < M2.sz (0 : Int).toNat := by show hp_ < (M2.sz 0 : Int); rw [HI8.out.mg.s]; omega
    have hr2 := hrg.1
    by_cases hz : x2 >>> 1 = 0#64
    · have hn0 : nn = -1 := by rw [← hnn.out, hz, U_0]; rfl
      obtain ⟨hc, hh⟩ := HZ7.out hz
      have hc2 : (c : Int) = 1 := by omega
      have hpk : Hid (U (M2.wd (0 : Int).toNat hp_.toNat) = 0) := Lib.hid (by show U (M2.wd 0 hp_.toNat) = 0; rw [hza, hh, hzw.out, U_0])
      subst hn0
      rw [hc2]
      clear hc hh hc2 hza hrg HZ7 HY7 hz
      go_wp2_with (first
        | (go_at_call 27; refine (hazard_is p t s _ hp_ hhp).mono ?_; rintro e w9 ⟨rfl, hx⟩; have HI9 := Lib.hid (HI8.out.ext hx); clear hx)
        | (go_at_call 26; refine (peek_int HI9.out.m 0 hp_ 0 (by omega) hr0 hr2 hr1 hpk).mono ?_; rintro e w10 ⟨rfl, hx⟩; have HX := Lib.hid (ext_trans HI9.out.ex hx); clear hx))
      go_ret
      exact Ret.bool (by simp) HX.out
    · have hn0 : nn = U (x2 >>> 1) - 1 := hnn.out.symm
      have hpos : 0 < U (x2 >>> 1) := by
        have h0 : U (x2 >>> 1) ≠ 0 := fun h => hz (U_inj (h.trans U_0.symm))
        have h1 : 0 ≤ U (x2 >>> 1) := by rw [U_toNat]; omega
        omega
      have hle : U (x2 >>> 1) ≤ U x2 := by
        rw [U_toNat, U_toNat, BitVec.toNat_ushiftRight]
        have h := Nat.shiftRight_le x2.toNat 1
        generalize x2.toNat >>> 1 = q at h
        omega
      obtain ⟨hc, hh⟩ := HY7.out hz
      have hc2 : (c : Int) = 3 := by omega
      have hpk : Hid (U (M2.wd (0 : Int).toNat hp_.toNat) = nn + 1) := Lib.hid (by show U (M2.wd 0 hp_.toNat) = nn + 1; rw [hza, hh]; omega)
      have hnn0 : 0 ≤ nn := by omega
      have hnn1 : nn < 1099511627776 := by omega
      have hnn2 : ¬ nn < 0 := by omega
      rw [hc2]
      clear hc hh hc2 hza hrg HZ7 HY7 hz hn0 hpos hle
      go_wp2_with (first
        | (go_at_call 27; refine (hazard_is p t s _ hp_ hhp).mono ?_; rintro e w9 ⟨rfl, hx⟩; have HI9 := Lib.hid (HI8.out.ext hx); clear hx)
        | (go_at_call 26; refine (peek_int HI9.out.m 0 hp_ (nn + 1) (by omega) hr0 hr2 hr1 hpk).mono ?_; rintro e w10 ⟨rfl, hx⟩; have HX := Lib.hid (ext_trans HI9.out.ex hx); clear hx))
      go_ret
      exact Ret.bool (by simp) HX.out
  · have HFT := Lib.hid hf
    clear hf
    go_wp2_with (first
      | (go_at_call 17; refine (hwake_any _).mono ?_; rintro e w' hr; obtain ⟨rfl, sA, rfl⟩ := hr.over; clear hr)
      | (go_at_call 18; refine (fits_any p t s 0 _ false (hid_no HFT.out)).mono ?_; rintro e w' hr; obtain ⟨rfl, sA, rfl⟩ := hr.over; clear hr))
    go_ret
    exact Ret.mk (by repeat (first | exact HE.out | apply ext_over | apply ext_alloc))
end Go.Proofs.Ytkjbfhcgldgkaaa
