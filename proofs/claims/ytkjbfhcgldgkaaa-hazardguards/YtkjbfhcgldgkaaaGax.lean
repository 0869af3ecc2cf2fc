/-
  What the calls of Step and Over come to (U). Conditions: those of each theorem.
-/
import Derived.Test.YtkjbfhcgldgkaaaGaw
namespace Go.Proofs.Ytkjbfhcgldgkaaa
open Go Go.RowKit

set_option maxRecDepth 8000 in
set_option maxHeartbeats 2000000 in
theorem stepA_U {lo hi : Nat} {L : Lay} {M : MS} (a : Acc) (f : BitVec 64 → Tr (BitVec 64)) (F : Nat → Prop) (v : Value) (r : Int) (e : BitVec 64) (w : World) (hP : PT kU (.ask a f) F v w) (hF : Bnd F w) (hO : ∀ j, F j → j < lo ∨ hi ≤ j) (hM : MemIn lo hi L M w) (hd : DoOk M r e a.op a.at_) (x : BitVec 64) (hx0 : Hid (M.wd r.toNat a.at_.toNat = x)) :
    Calls Try.prog 32 #[v, .pointer (some ⟨L.bm, 0, none⟩), .agg #[.int .i64 r, .int .u64 (U e)]] w (RetS kU lo hi L (M.done r a.op a.at_ a.a a.b) (f x) F w) := by
  obtain ⟨g, caps, rfl, hg, hc⟩ := hP
  have HC := Lib.hid hc
  have HM := Lib.hid hM
  have HDO := Lib.hid hd
  have hhi := hM.top
  unfold Enters at hg
  clear hc hM hd
  have n0 : ∀ f x y w, (binOp .eql 77 (.func f x y) .nilFunc).run Try.prog w = .ok (.bool false) w := fun f x y w => eql_fn w fnU f x y
  show Calls Try.prog 32 #[.agg #[.int .u64 0, .int .i64 a.op, .int .i64 a.at_, .int .u64 (U a.a), .int .u64 (U a.b), .func (.func g) #[] caps, .pointer none], .pointer (some ⟨L.bm, 0, none⟩), .agg #[.int .i64 r, .int .u64 (U e)]] w _
  go_enter Try.func32, Try.ntmps32
  go_wp2_with (go_at_call 30; refine Hid.out ?_)
  refine Lib.hid ?_
  have hb3 := heap_at ((w.alloc (.cells #[.int .u64 0, .int .i64 a.op, .int .i64 a.at_, .int .u64 (U a.a), .int .u64 (U a.b), .func (.func g) #[] caps, .pointer none] 79)).alloc (.cells #[.int .i64 r, .int .u64 (U e)] 62)) (.cells #[.int .u64 0, .int .i64 0, .int .i64 0, .int .u64 0, .int .u64 0, .nilFunc, .pointer none] 79) (w.heap.size + 1 + 1) (by simp)
  have hb1 := cell_at (o := 5) (heap_at w (.cells #[.int .u64 0, .int .i64 a.op, .int .i64 a.at_, .int .u64 (U a.a), .int .u64 (U a.b), .func (.func g) #[] caps, .pointer none] 79) w.heap.size rfl) rfl
  have hb1' := ext_cell (ext_alloc (.cells #[.int .u64 0, .int .i64 0, .int .i64 0, .int .u64 0, .int .u64 0, .nilFunc, .pointer none] 79) (ext_alloc (.cells #[.int .i64 r, .int .u64 (U e)] 62) (ext_refl _))) hb1
  have hEW : Ext w (((w.alloc (.cells #[.int .u64 0, .int .i64 a.op, .int .i64 a.at_, .int .u64 (U a.a), .int .u64 (U a.b), .func (.func g) #[] caps, .pointer none] 79)).alloc (.cells #[.int .i64 r, .int .u64 (U e)] 62)).alloc (.cells #[.int .u64 0, .int .i64 0, .int .i64 0, .int .u64 0, .int .u64 0, .nilFunc, .pointer none] 79)) := ext_alloc _ (ext_alloc _ (ext_alloc _ (ext_refl w)))
  have hz : (((w.alloc (.cells #[.int .u64 0, .int .i64 a.op, .int .i64 a.at_, .int .u64 (U a.a), .int .u64 (U a.b), .func (.func g) #[] caps, .pointer none] 79)).alloc (.cells #[.int .i64 r, .int .u64 (U e)] 62)).alloc (.cells #[.int .u64 0, .int .i64 0, .int .i64 0, .int .u64 0, .int .u64 0, .nilFunc, .pointer none] 79)).heap.size = w.heap.size + 1 + 1 + 1 := by simp
  clear hb1
  generalize (((w.alloc (.cells #[.int .u64 0, .int .i64 a.op, .int .i64 a.at_, .int .u64 (U a.a), .int .u64 (U a.b), .func (.func g) #[] caps, .pointer none] 79)).alloc (.cells #[.int .i64 r, .int .u64 (U e)] 62)).alloc (.cells #[.int .u64 0, .int .i64 0, .int .i64 0, .int .u64 0, .int .u64 0, .nilFunc, .pointer none] 79)) = W at hb3 hb1' hEW hz ⊢
  refine (do_yes (HM.out.ext hEW) r a.op a.at_ e a.a a.b HDO.out).mono ?_
  rintro e1 w1 ⟨rfl, hm1, hf1⟩
  rw [hx0.out]
  have hs1 := hf1.size
  have k5 : w1.cell? ⟨w.heap.size, 5, none⟩ = some (.func (.func g) #[] caps) := by
    rw [hf1.cell (by omega) (.inr hhi)]; exact hb1'
  have hb31 : w1.heap[w.heap.size + 1 + 1]? = _ := (hf1.block _ (by omega) (.inr (by omega))).trans hb3
  have HM1 := Lib.hid hm1
  have HF1 := Lib.hid ((Fr.of_ext hEW).trans hf1)
  have HB1 := Lib.hid hb31
  have HCX := Lib.hid (HC.out x w1 (Agr.of_fr HF1.out hF hO))
  have lw1 : w.heap.size < w1.heap.size := by omega
  clear hm1 hf1 hb3 hb1' hb31 hEW HC HM HDO
  go_wp2_with (refine HCX.out.mono ?_; rintro e2 w2 ⟨v', F', rfl, hx, hp, hbn, hsub⟩; refine Hid.out ?_)
  refine Lib.hid ?_
  have hbx := (hx.block _ (heap_lt HB1.out)).trans HB1.out
  obtain ⟨y, a2, fn2, rfl, hfn⟩ := shU hp
  have hnF : ¬ F' (w.heap.size + 1 + 1) := fun h => by
    rcases hsub _ h with h | h
    · have := hF _ h; omega
    · omega
  have hX := put7_frNew (b := w.heap.size + 1 + 1) (.int .u64 y) (.int .i64 a2.op) (.int .i64 a2.at_) (.int .u64 (U a2.a)) (.int .u64 (U a2.b)) (fn2) (.pointer none) (HF1.out.ext hx) (by omega)
  have hMM := put7_mem (b := w.heap.size + 1 + 1) (.int .u64 y) (.int .i64 a2.op) (.int .i64 a2.at_) (.int .u64 (U a2.a)) (.int .u64 (U a2.b)) (fn2) (.pointer none) (HM1.out.ext hx) (by omega)
  have hB := put7_block (.int .u64 y) (.int .i64 a2.op) (.int .i64 a2.at_) (.int .u64 (U a2.a)) (.int .u64 (U a2.b)) (fn2) (.pointer none) hbx
  have hP := hp.agr (Agr.of_put7 (b := w.heap.size + 1 + 1) (.int .u64 y) (.int .i64 a2.op) (.int .i64 a2.at_) (.int .u64 (U a2.a)) (.int .u64 (U a2.b)) (fn2) (.pointer none) hnF)
  have hS : (put7 (w.heap.size + 1 + 1) (.int .u64 y) (.int .i64 a2.op) (.int .i64 a2.at_) (.int .u64 (U a2.a)) (.int .u64 (U a2.b)) (fn2) (.pointer none) w2).heap.size = w2.heap.size := put7_size (.int .u64 y) (.int .i64 a2.op) (.int .i64 a2.at_) (.int .u64 (U a2.a)) (.int .u64 (U a2.b)) (fn2) (.pointer none)
  obtain ⟨c0, c1, c2, c3, c4, c5, c6, cz, ll⟩ := sev_of hbx
  rw [put7] at hX hB hP hS hMM
  have HX := Lib.hid (And.intro hX (And.intro hB (And.intro hP (And.intro hS hMM))))
  have HFN := Lib.hid hfn
  have HBN := Lib.hid hbn
  have HSUB := Lib.hid hsub
  clear hX hB hP hS hMM hx hbx hp hfn hbn hsub hnF HCX HB1 HM1 HF1
  rcases HFN.out with rfl | ⟨g', caps', rfl⟩
  all_goals
    go_wp2
    clear c0 c1 c2 c3 c4 c5 c6 cz ll
    obtain ⟨hX, hB, hP, hS, hMM⟩ := HX.out
    clear HX
    generalize (World.setCell _ (⟨w.heap.size + 1 + 1, 6, none⟩ : Addr) _) = Z at hX hB hP hS hMM ⊢
    obtain ⟨c0, c1, c2, c3, c4, c5, c6, cz, ll⟩ := sev_of hB
    exact bodyPost_ret (by simp only [results, Try.results32, go_sem]; simp [go_sem, c0, c1, c2, c3, c4, c5, c6]) rfl ⟨_, F', rfl, hP, fun j hj => by rw [hS]; exact HBN.out j hj, fun j hj => (HSUB.out j hj).imp_right fun h => by omega, hMM, hX⟩
set_option maxRecDepth 8000 in
set_option maxHeartbeats 2000000 in
theorem stepR_U {lo hi : Nat} {L : Lay} {M : MS} (a : Acc) (f : BitVec 64 → Tr (BitVec 64)) (F : Nat → Prop) (v : Value) (r : Int) (e : BitVec 64) (w : World) (hP : PT kU (.ask a f) F v w) (hM : MemIn lo hi L M w) (hd : ¬ DoOk M r e a.op a.at_) :
    Calls Try.prog 32 #[v, .pointer (some ⟨L.bm, 0, none⟩), .agg #[.int .i64 r, .int .u64 (U e)]] w (Ret (.tuple #[v, .bool false]) w) := by
  obtain ⟨g, caps, rfl, hg, hc⟩ := hP
  have HM := Lib.hid hM
  have HDO := Lib.hid hd
  have hhi := hM.top
  clear hc hM hd hg
  have n0 : ∀ f x y w, (binOp .eql 77 (.func f x y) .nilFunc).run Try.prog w = .ok (.bool false) w := fun f x y w => eql_fn w fnU f x y
  show Calls Try.prog 32 #[.agg #[.int .u64 0, .int .i64 a.op, .int .i64 a.at_, .int .u64 (U a.a), .int .u64 (U a.b), .func (.func g) #[] caps, .pointer none], .pointer (some ⟨L.bm, 0, none⟩), .agg #[.int .i64 r, .int .u64 (U e)]] w _
  go_enter Try.func32, Try.ntmps32
  go_wp2_with (go_at_call 30; refine Hid.out ?_)
  refine Lib.hid ?_
  have hb3 := heap_at ((w.alloc (.cells #[.int .u64 0, .int .i64 a.op, .int .i64 a.at_, .int .u64 (U a.a), .int .u64 (U a.b), .func (.func g) #[] caps, .pointer none] 79)).alloc (.cells #[.int .i64 r, .int .u64 (U e)] 62)) (.cells #[.int .u64 0, .int .i64 0, .int .i64 0, .int .u64 0, .int .u64 0, .nilFunc, .pointer none] 79) (w.heap.size + 1 + 1) (by simp)
  have hb1 : (((w.alloc (.cells #[.int .u64 0, .int .i64 a.op, .int .i64 a.at_, .int .u64 (U a.a), .int .u64 (U a.b), .func (.func g) #[] caps, .pointer none] 79)).alloc (.cells #[.int .i64 r, .int .u64 (U e)] 62)).alloc (.cells #[.int .u64 0, .int .i64 0, .int .i64 0, .int .u64 0, .int .u64 0, .nilFunc, .pointer none] 79)).heap[w.heap.size]? = some (.cells #[.int .u64 0, .int .i64 a.op, .int .i64 a.at_, .int .u64 (U a.a), .int .u64 (U a.b), .func (.func g) #[] caps, .pointer none] 79) := by
    rw [Below.heap_alloc _ _ _ (by simp; omega), Below.heap_alloc _ _ _ (by simp)]
    exact heap_at w _ _ rfl
  have hEW : Ext w (((w.alloc (.cells #[.int .u64 0, .int .i64 a.op, .int .i64 a.at_, .int .u64 (U a.a), .int .u64 (U a.b), .func (.func g) #[] caps, .pointer none] 79)).alloc (.cells #[.int .i64 r, .int .u64 (U e)] 62)).alloc (.cells #[.int .u64 0, .int .i64 0, .int .i64 0, .int .u64 0, .int .u64 0, .nilFunc, .pointer none] 79)) := ext_alloc _ (ext_alloc _ (ext_alloc _ (ext_refl w)))
  generalize (((w.alloc (.cells #[.int .u64 0, .int .i64 a.op, .int .i64 a.at_, .int .u64 (U a.a), .int .u64 (U a.b), .func (.func g) #[] caps, .pointer none] 79)).alloc (.cells #[.int .i64 r, .int .u64 (U e)] 62)).alloc (.cells #[.int .u64 0, .int .i64 0, .int .i64 0, .int .u64 0, .int .u64 0, .nilFunc, .pointer none] 79)) = W at hb3 hb1 hEW ⊢
  refine (do_no (HM.out.ext hEW) r a.op a.at_ e a.a a.b HDO.out).mono ?_
  rintro e1 w1 ⟨rfl, hx⟩
  have hb31 := (hx.block _ (heap_lt hb3)).trans hb3
  have hb11 := (hx.block _ (heap_lt hb1)).trans hb1
  obtain ⟨c0, c1, c2, c3, c4, c5, c6, cz, ll⟩ := sev_of hb31
  obtain ⟨d0, d1, d2, d3, d4, d5, d6, dz, dl⟩ := sev_of hb11
  have hX := put7_ext (b := w.heap.size + 1 + 1) (.int .u64 0) (.int .i64 a.op) (.int .i64 a.at_) (.int .u64 (U a.a)) (.int .u64 (U a.b)) (.func (.func g) #[] caps) (.pointer none) (ext_trans hEW hx) (by omega)
  have hB := put7_block (.int .u64 0) (.int .i64 a.op) (.int .i64 a.at_) (.int .u64 (U a.a)) (.int .u64 (U a.b)) (.func (.func g) #[] caps) (.pointer none) hb31
  rw [put7] at hX hB
  have HX := Lib.hid hX
  have HB := Lib.hid hB
  clear hX hB hb3 hb1 hEW hx hb31 hb11
  go_wp2
  replace HX := HX.out
  replace HB := HB.out
  clear c0 c1 c2 c3 c4 c5 c6 cz ll
  generalize (World.setCell _ (⟨w.heap.size + 1 + 1, 6, none⟩ : Addr) _) = Z at HB HX ⊢
  obtain ⟨c0, c1, c2, c3, c4, c5, c6, cz, ll⟩ := sev_of HB
  exact bodyPost_ret (by simp only [results, Try.results32, go_sem]; simp [go_sem, c0, c1, c2, c3, c4, c5, c6, kU, vS]) rfl (Ret.mk HX)
set_option maxRecDepth 8000 in
set_option maxHeartbeats 2000000 in
theorem stepD_U (x : BitVec 64) (F : Nat → Prop) (v mv : Value) (r : Int) (e : BitVec 64) (w : World) (hP : PT kU (.done x) F v w) :
    Calls Try.prog 32 #[v, mv, .agg #[.int .i64 r, .int .u64 (U e)]] w (Ret (.tuple #[v, .bool false]) w) := by
  cases hP
  have n0 : ∀ w, (binOp .eql 77 .nilFunc .nilFunc).run Try.prog w = .ok (.bool true) w := fun w => eql_nil w fnU
  show Calls Try.prog 32 #[.agg #[.int .u64 (U x), .int .i64 accZ.op, .int .i64 accZ.at_, .int .u64 (U accZ.a), .int .u64 (U accZ.b), .nilFunc, .pointer none], mv, .agg #[.int .i64 r, .int .u64 (U e)]] w _
  go_enter Try.func32, Try.ntmps32
  go_wp2
  exact bodyPost_ret (by simp only [results, Try.results32, go_sem]; simp [go_sem, kU, vS]) rfl (Ret.mk (ext_alloc _ (ext_alloc _ (ext_alloc _ (ext_refl w)))))
theorem over_U (t : Tr (BitVec 64)) (F : Nat → Prop) (v : Value) (w : World) (hP : PT kU t F v w) (y : Int) (b : Bool) (hy : Hid (ansT kU t = .int .u64 y)) (hb : Hid (ovT t = b)) : Calls Try.prog 33 #[v] w (Ret (.tuple #[.int .u64 y, .bool b]) w) := by
  rw [← hb.out, ← hy.out]
  cases t with
  | done x => cases hP; exact overYU (U x) _ _ _ _ w
  | ask a f => obtain ⟨g, caps, rfl, _⟩ := hP; exact ovnU a _ _ _ w
  | more => obtain ⟨a, g, caps, rfl, _⟩ := hP; exact ovnU a _ _ _ w
theorem ans_U (t : Tr (BitVec 64)) : ∃ y, ansT kU t = .int .u64 y := by
  cases t with
  | done x => exact ⟨_, rfl⟩
  | ask a f => exact ⟨_, rfl⟩
  | more => exact ⟨_, rfl⟩
theorem stay_U {lo hi : Nat} {L : Lay} {M : MS} (t : Tr (BitVec 64)) (F : Nat → Prop) (v : Value) (r : Int) (e : BitVec 64) (w : World) (hP : PT kU t F v w) (hM : MemIn lo hi L M w) (hs : Stays r e M t) :
    Calls Try.prog 32 #[v, .pointer (some ⟨L.bm, 0, none⟩), .agg #[.int .i64 r, .int .u64 (U e)]] w (Ret (.tuple #[v, .bool false]) w) := by
  cases t with
  | done x => exact stepD_U x F v _ r e w hP
  | ask a f => exact stepR_U a f F v r e w hP hM hs
  | more => exact hs.elim
end Go.Proofs.Ytkjbfhcgldgkaaa

/-
  What the calls of Run come to (U). Conditions: those of each theorem.
-/
namespace Go.Proofs.Ytkjbfhcgldgkaaa
open Go Go.RowKit

structure RunN_U (lo hi : Nat) (L : Lay) (r : Int) (e : BitVec 64) (x : MS × Nat × Tr (BitVec 64)) (m : Nat) (B : Nat) (w : World) (n : Nat) (t : Tr (BitVec 64)) (M : MS) (v : Value) (F : Nat → Prop) (wr : World) : Prop where
  km : n ≤ m
  res : ∃ y, runT r e (m - n) t M = some y ∧ x = (y.1, y.2.1 + n, y.2.2)
  p : PT kU t F v wr
  bnd : Bnd F wr
  off : ∀ j, F j → (j < lo ∨ hi ≤ j) ∧ j ≠ B
  mem : MemIn lo hi L M wr
  fr : Fr lo hi w wr
  box : ∃ (y : Int) (a : Acc) (fn : Value), v = .agg #[.int .u64 y, .int .i64 a.op, .int .i64 a.at_, .int .u64 (U a.a), .int .u64 (U a.b), fn, .pointer none] ∧ (fn = .nilFunc ∨ ∃ g caps, fn = .func (.func g) #[] caps) ∧ wr.heap[B]? = some (.cells #[.int .u64 y, .int .i64 a.op, .int .i64 a.at_, .int .u64 (U a.a), .int .u64 (U a.b), fn, .pointer none] 79)
  cap : wr.heap[B + 1]? = some (.cells #[.int .i64 r, .int .u64 (U e)] 62)
def RunL_U (lo hi : Nat) (L : Lay) (r : Int) (e : BitVec 64) (x : MS × Nat × Tr (BitVec 64)) (m : Nat) (B : Nat) (w : World) (i : Value) (wr : World) : Prop :=
  ∃ (n : Nat) (t : Tr (BitVec 64)) (M : MS) (v : Value) (F : Nat → Prop), i = .int .i64 (n : Int) ∧ RunN_U lo hi L r e x m B w n t M v F wr
set_option maxRecDepth 8000 in
set_option maxHeartbeats 4000000 in
theorem run_U {lo hi : Nat} {L : Lay} {M : MS} (t : Tr (BitVec 64)) (F : Nat → Prop) (v : Value) (r : Int) (e : BitVec 64) (most : Int) (w : World) (x : MS × Nat × Tr (BitVec 64)) (hmo : most ≤ 1099511627776) (hx : runT r e most.toNat t M = some x) (hP : PT kU t F v w) (hF : Bnd F w) (hO : ∀ j, F j → j < lo ∨ hi ≤ j) (hM : MemIn lo hi L M w) :
    Calls Try.prog 35 #[v, .pointer (some ⟨L.bm, 0, none⟩), .agg #[.int .i64 r, .int .u64 (U e)], .int .i64 most] w (RetR kU lo hi L x w) := by
  have HP := Lib.hid hP
  have HM := Lib.hid hM
  have hhi := hM.top
  obtain ⟨y, a, fn, rfl, hfn⟩ := shU hP
  have HFN := Lib.hid hfn
  clear hfn hP hM
  have HI : Hid (RunN_U lo hi L r e x most.toNat w.heap.size w 0 t M (.agg #[.int .u64 y, .int .i64 a.op, .int .i64 a.at_, .int .u64 (U a.a), .int .u64 (U a.b), fn, .pointer none]) F ((w.alloc (.cells #[.int .u64 y, .int .i64 a.op, .int .i64 a.at_, .int .u64 (U a.a), .int .u64 (U a.b), fn, .pointer none] 79)).alloc (.cells #[.int .i64 r, .int .u64 (U e)] 62))) := by
    refine Lib.hid ⟨Nat.zero_le _, ⟨x, hx, rfl⟩, ?_, ?_, fun j hj => ⟨hO j hj, fun h => by have := hF j hj; omega⟩, ?_, ?_, ⟨y, a, fn, rfl, HFN.out, ?_⟩, ?_⟩
    · exact HP.out.agr (Agr.of_ext (by repeat (first | exact ext_refl _ | apply ext_alloc)) hF)
    · exact hF.ext (by simp; omega)
    · exact HM.out.ext (by repeat (first | exact ext_refl _ | apply ext_alloc))
    · exact .of_ext (by repeat (first | exact ext_refl _ | apply ext_alloc))
    · rw [Below.heap_alloc _ _ _ (by simp)]
      exact heap_at w _ _ rfl
    · exact heap_at _ _ _ (by simp)
  clear HP HM hF hO hx
  go_enter Try.func35, Try.ntmps35
  go_wp2
  go_loopw [11] (fun i wr => RunL_U lo hi L r e x most.toNat w.heap.size w i wr) (fun i _ => (most - intOf i).toNat)
  case atStart => exact ⟨0, _, _, _, _, rfl, HI.out⟩
  case round =>
    obtain ⟨n, t', M', v, F', rfl, hR⟩ := hrel
    have HR := Lib.hid hR
    obtain ⟨y1, a1, fn1, rfl, hfn1, hblk⟩ := hR.box
    have HFN1 := Lib.hid hfn1
    have HBK := Lib.hid hblk
    obtain ⟨c0, c1, c2, c3, c4, c5, c6, cz, ll⟩ := sev_of hblk
    have cp0 := cell_at (o := 0) hR.cap rfl
    have cp1 := cell_at (o := 1) hR.cap rfl
    have lp := heap_lt hR.cap
    have hsz := hR.fr.size
    have hkm := hR.km
    clear hR hfn1 hblk HI HFN
    by_cases hlt : (n : Int) < most
    · by_cases hst : Stays r e M' t'
      · have hE : x = (M', n, t') := by
          obtain ⟨y', h1, h2⟩ := HR.out.res
          rw [runT_stays hst] at h1
          cases h1
          simpa using h2
        have HE := Lib.hid hE
        have HST := Lib.hid hst
        clear hE hst
        obtain ⟨z1, hz1⟩ := ans_U t'
        have HZ1 := Lib.hid hz1
        clear hz1
        rcases HFN1.out with rfl | ⟨g', caps', rfl⟩
        all_goals
          go_wp2_with (first
            | (go_at_call 32; refine (stay_U t' F' _ r e _ HR.out.p HR.out.mem HST.out).mono ?_; rintro e1 w1 ⟨rfl, hx⟩; have HX := Lib.hid hx; clear hx; have c0 := ext_cell HX.out c0; have c1 := ext_cell HX.out c1; have c2 := ext_cell HX.out c2; have c3 := ext_cell HX.out c3; have c4 := ext_cell HX.out c4; have c5 := ext_cell HX.out c5; have c6 := ext_cell HX.out c6; have ll1 := Nat.lt_of_lt_of_le ll HX.out.size)
            | (go_at_call 33; refine (over_U t' F' _ _ (HR.out.p.agr (Agr.of_ext (ext_trans HX.out (by repeat (first | exact ext_refl _ | apply ext_alloc))) HR.out.bnd)) z1 _ HZ1 (Lib.hid rfl)).mono ?_; rintro e1 w1' ⟨rfl, hx⟩; replace hx := ext_trans (ext_trans HX.out (by repeat (first | exact ext_refl _ | apply ext_alloc))) hx))
          exact bodyPost_ret (v := .tuple #[.int .u64 z1, .int .i64 (n : Int), .bool (ovT t')]) (by simp [results, Try.results35, go_sem]) rfl (by rw [HE.out]; exact ⟨by rw [← HZ1.out], HR.out.mem.ext (by first | exact hx | exact ext_trans hx (by repeat (first | exact ext_refl _ | apply ext_alloc))), HR.out.fr.ext (by first | exact hx | exact ext_trans hx (by repeat (first | exact ext_refl _ | apply ext_alloc)))⟩)
      · have hE : ∃ a f, t' = .ask a f ∧ DoOk M' r e a.op a.at_ := by
          obtain ⟨y', h1, h2⟩ := HR.out.res
          rw [show most.toNat - n = (most.toNat - (n + 1)) + 1 by omega] at h1
          cases t' with
          | done x => exact (hst trivial).elim
          | ask a f => exact ⟨a, f, rfl, by by_cases hd : DoOk M' r e a.op a.at_; exact hd; exact (hst hd).elim⟩
          | more => simp [runT] at h1
        obtain ⟨a3, f3, rfl, hd⟩ := hE
        have HD := Lib.hid hd
        obtain ⟨x3, hx3⟩ : ∃ x3, Hid (M'.wd r.toNat a3.at_.toNat = x3) := ⟨_, Lib.hid rfl⟩
        clear hd hst
        go_wp2_with (go_at_call 32; refine (stepA_U a3 f3 F' _ r e _ HR.out.p HR.out.bnd (fun j hj => (HR.out.off j hj).1) HR.out.mem HD.out x3 hx3).mono ?_; rintro e1 w1 ⟨v2, F2, rfl, hp, hbn, hsub, hm, hf⟩; refine Hid.out ?_)
        refine Lib.hid ?_
        have hs1 := hf.size
        have hB1 := (hf.block _ ll (.inr hhi)).trans HBK.out
        have hC1 := (hf.block _ lp (.inr (by omega))).trans HR.out.cap
        obtain ⟨y2, a2, fn2, rfl, hfn2⟩ := shU hp
        have HFN2 := Lib.hid hfn2
        clear c0 c1 c2 c3 c4 c5 c6 cz cp0 cp1 hfn2
        obtain ⟨c0, c1, c2, c3, c4, c5, c6, cz, ll1⟩ := sev_of hB1
        have HS : Hid (∀ o, RunN_U lo hi L r e x most.toNat w.heap.size w (n + 1) (f3 x3) (M'.done r a3.op a3.at_ a3.a a3.b) (.agg #[.int .u64 y2, .int .i64 a2.op, .int .i64 a2.at_, .int .u64 (U a2.a), .int .u64 (U a2.b), fn2, .pointer none]) F2 ((put7 w.heap.size (.int .u64 y2) (.int .i64 a2.op) (.int .i64 a2.at_) (.int .u64 (U a2.a)) (.int .u64 (U a2.b)) (fn2) (.pointer none) w1).alloc o)) := by
          refine Lib.hid fun o => ⟨by omega, ?_, ?_, ?_, ?_, ?_, ?_, ⟨y2, a2, fn2, rfl, HFN2.out, ?_⟩, ?_⟩
          · obtain ⟨y', h1, h2⟩ := HR.out.res
            rw [show most.toNat - n = (most.toNat - (n + 1)) + 1 by omega, runT, if_pos HD.out, hx3.out] at h1
            obtain ⟨y3, h3, h4⟩ := Option.map_eq_some_iff.1 h1
            subst h4
            exact ⟨y3, h3, by rw [h2]; simp; omega⟩
          · have hnB : ¬ F2 w.heap.size := fun h => by
              rcases hsub _ h with h | h
              · exact (HR.out.off _ h).2 rfl
              · omega
            exact (hp.agr (Agr.of_put7 _ _ _ _ _ _ _ hnB)).agr (Agr.of_ext (ext_alloc o (ext_refl _)) (hbn.ext (by rw [put7_size]; exact Nat.le_refl _)))
          · exact hbn.ext (by simp [put7_size])
          · intro j hj
            rcases hsub j hj with h | h
            · exact HR.out.off j h
            · exact ⟨.inr (by omega), by omega⟩
          · exact (put7_mem _ _ _ _ _ _ _ hm hhi).alloc o
          · exact (put7_frNew _ _ _ _ _ _ _ (HR.out.fr.trans hf) (Nat.le_refl _)).alloc o
          · exact (Below.heap_alloc _ _ _ (by rw [put7_size]; exact ll1)).trans (put7_block _ _ _ _ _ _ _ hB1)
          · rw [Below.heap_alloc _ _ _ (by rw [put7_size]; exact heap_lt hC1), put7_other _ _ _ _ _ _ _ (by omega)]
            exact hC1
        rw [put7] at HS
        clear hp hm hf hB1 hC1 HD hbn hsub
        rcases HFN2.out with rfl | ⟨g', caps', rfl⟩
        all_goals
          go_wp2
          exact ⟨⟨n + 1, _, _, _, _, by go_num, HS.out _⟩, by simp [intOf]; omega⟩
    · have hE : x = (M', n, t') := by
        obtain ⟨y', h1, h2⟩ := HR.out.res
        rw [show most.toNat - n = 0 by omega, runT] at h1
        cases h1
        simpa using h2
      have HE := Lib.hid hE
      clear hE
      obtain ⟨z1, hz1⟩ := ans_U t'
      have HZ1 := Lib.hid hz1
      clear hz1
      rcases HFN1.out with rfl | ⟨g', caps', rfl⟩
      all_goals
        go_wp2_with (go_at_call 33; refine (over_U t' F' _ _ HR.out.p z1 _ HZ1 (Lib.hid rfl)).mono ?_; rintro e1 w1 ⟨rfl, hx⟩)
        exact bodyPost_ret (v := .tuple #[.int .u64 z1, .int .i64 (n : Int), .bool (ovT t')]) (by simp [results, Try.results35, go_sem]) rfl (by rw [HE.out]; exact ⟨by rw [← HZ1.out], HR.out.mem.ext (by first | exact hx | exact ext_trans hx (by repeat (first | exact ext_refl _ | apply ext_alloc))), HR.out.fr.ext (by first | exact hx | exact ext_trans hx (by repeat (first | exact ext_refl _ | apply ext_alloc)))⟩)
end Go.Proofs.Ytkjbfhcgldgkaaa

/-
  Places of fields; a Guard that is run alone, in plain numbers and as a call; what a program asks next. Conditions: a formed plan; a place that is no hazard.
-/
namespace Go.Proofs.Ytkjbfhcgldgkaaa
open Go Go.RowKit

theorem fd_place {p : Pl} (hp : p.ok) {n f : Int} (hn : InR p n) (h0 : 0 ≤ f) (h1 : f < 3) : 0 ≤ p.fdF n f ∧ p.fdF n f < p.sizeF ∧ ∀ i : Nat, (i : Int) < 3 * p.t → (p.fdF n f).toNat ≠ hzN p i := by
  have e : p.fdF n f = p.nod n + 2 + f := by unfold Pl.fdF; rw [if_pos ⟨hp, hn, h0, h1⟩]
  have hs : p.sizeF = p.nod p.n := by unfold Pl.sizeF; rw [if_pos hp]
  have hz := haz_size hp (i := 0) (by omega) (by have := hp.2.1; omega)
  have e1 : p.nod n = p.nod 0 + n * 5 := by unfold Pl.nod; omega
  have e2 : p.nod p.n = p.nod 0 + p.n * 5 := by unfold Pl.nod; omega
  have h2 := hn.1
  have h3 := hn.2
  have hd := Pl.dom_in hp (Pl.d_in hp).1 (Pl.d_in hp).2
  refine ⟨by omega, by omega, fun i hi => ?_⟩
  have h4 := haz_size hp (i := (i : Int)) (by omega) hi
  unfold hzN
  omega
theorem hzW_at {p : Pl} (hp : p.ok) (M : MS) {t s : Int} (h0 : 0 ≤ t) (h1 : t < p.t) (h2 : 0 ≤ s) (h3 : s < 3) : M.wd 0 (p.hazF t s).toNat = hzW p M (3 * t + s).toNat := by
  rw [(hazF_eq hp h0 h1 h2 h3).2]
  rfl
theorem haz_rg {p : Pl} (hp : p.ok) {t s : Int} (h0 : 0 ≤ t) (h1 : t < p.t) (h2 : 0 ≤ s) (h3 : s < 3) : 0 ≤ p.hazF t s ∧ p.hazF t s < p.sizeF := by
  have e := (hazF_eq hp h0 h1 h2 h3).1
  have h := haz_size hp (i := 3 * t + s) (by omega) (by omega)
  omega
/-- A guard that is run alone. -/
theorem grd_alone {p : Pl} (hp : p.ok) {M : MS} (hM : Mg p M) {t s at_ : Int} (h0 : 0 ≤ t) (h1 : t < p.t) (h2 : 0 ≤ s) (h3 : s < 3) (ha0 : 0 ≤ at_) (ha1 : at_ < p.sizeF) (ha : ∀ i : Nat, (i : Int) < 3 * p.t → at_.toNat ≠ hzN p i) (sh : Nat) (x : BitVec 64) (hx : M.wd 0 at_.toNat = x) :
    ∃ M' c, runT 0 1#64 9 (grdT p t s at_ sh 6) M = some (M', c, .done x) ∧ Mg p M' ∧ (x >>> sh = 0#64 → c = 1 ∧ hzW p M' (3 * t + s).toNat = hzW p M (3 * t + s).toNat) ∧ (x >>> sh ≠ 0#64 → c = 3 ∧ hzW p M' (3 * t + s).toNat = x >>> sh) := by
  obtain ⟨N1, n1, n2, g1, _⟩ := go_g hp hM h0 h1 h2 h3 ha0 ha1 sh 5 .ld rfl
  have w1 := gst_words hp hM h0 h1 h2 h3 ha sh .ld
  rw [hx] at g1 w1
  generalize M.done 0 (GS.ld.acc p t s at_ sh).op (GS.ld.acc p t s at_ sh).at_ (GS.ld.acc p t s at_ sh).a (GS.ld.acc p t s at_ sh).b = M1 at g1 w1
  have r1 := runT_gstep g1 8
  rw [show grdT p t s at_ sh 6 = gdT p t s at_ sh (5 + 1) .ld from rfl, r1]
  by_cases hz : x >>> sh = 0#64
  · have e : GS.ld.aft sh x = .dn x := by show gnx sh x = _; unfold gnx; rw [if_pos hz]
    rw [e]
    exact ⟨M1, 1, rfl, w1.1.mg, fun _ => ⟨rfl, w1.1.hz _ (by omega)⟩, fun h => (h hz).elim⟩
  · have e : GS.ld.aft sh x = .st x := by show gnx sh x = _; unfold gnx; rw [if_neg hz]
    rw [e]
    obtain ⟨K1, rfl⟩ : ∃ K, N1 = K + 1 := ⟨N1 - 1, by omega⟩
    obtain ⟨N2, n3, n4, g2, _⟩ := go_g hp w1.1.mg h0 h1 h2 h3 ha0 ha1 sh K1 (.st x) rfl
    have w2 := gst_words hp w1.1.mg h0 h1 h2 h3 ha sh (.st x)
    rw [w1.2] at g2 w2
    generalize M1.done 0 ((GS.st x).acc p t s at_ sh).op ((GS.st x).acc p t s at_ sh).at_ ((GS.st x).acc p t s at_ sh).a ((GS.st x).acc p t s at_ sh).b = M2 at g2 w2
    rw [show (8 : Nat) = 7 + 1 from rfl, runT_gstep g2 7]
    obtain ⟨K2, rfl⟩ : ∃ K, N2 = K + 1 := ⟨N2 - 1, by omega⟩
    obtain ⟨N3, n5, n6, g3, _⟩ := go_g hp w2.1.mg h0 h1 h2 h3 ha0 ha1 sh K2 (.rl x) rfl
    have w3 := gst_words hp w2.1.mg h0 h1 h2 h3 ha sh (.rl x)
    rw [w2.2] at g3 w3
    generalize M2.done 0 ((GS.rl x).acc p t s at_ sh).op ((GS.rl x).acc p t s at_ sh).at_ ((GS.rl x).acc p t s at_ sh).a ((GS.rl x).acc p t s at_ sh).b = M3 at g3 w3
    rw [show (GS.st x).aft sh x = .rl x from rfl, show (7 : Nat) = 6 + 1 from rfl, runT_gstep g3 6]
    have e3 : (GS.rl x).aft sh x = .dn x := by show (if x = x then GS.dn x else gnx sh x) = _; rw [if_pos rfl]
    rw [e3]
    refine ⟨M3, 3, rfl, w3.1.mg, fun h => (hz h).elim, fun _ => ⟨rfl, ?_⟩⟩
    rw [w3.1.hz _ (by omega)]
    show hzW p M2 _ = _
    rw [w2.1.hz _ (by omega)]
    simp
def RetGrdH (p : Pl) (lo hi : Nat) (L : Lay) (M : MS) (i sh : Nat) (x : BitVec 64) (w : World) (e : Ending) (w' : World) : Prop :=
  ∃ (M' : MS) (c : Nat), e = .returned (.tuple #[.int .u64 (U x), .int .i64 (c : Int), .bool true]) ∧ MemIn lo hi L M' w' ∧ Fr lo hi w w' ∧ Mg p M' ∧ (x >>> sh = 0#64 → c = 1 ∧ hzW p M' i = hzW p M i) ∧ (x >>> sh ≠ 0#64 → c = 3 ∧ hzW p M' i = x >>> sh)
theorem runGrdH {lo hi : Nat} {L : Lay} {M : MS} (p : Pl) (hp : p.ok) (hG : Mg p M) (t s at_ : Int) (sh : Nat) (x : BitVec 64) (h0 : 0 ≤ t) (h1 : t < p.t) (h2 : 0 ≤ s) (h3 : s < 3) (ha0 : 0 ≤ at_) (ha1 : at_ < p.sizeF) (ha : ∀ i : Nat, (i : Int) < 3 * p.t → at_.toNat ≠ hzN p i) (hx : M.wd 0 at_.toNat = x) (F : Nat → Prop) (v : Value) (w : World) (hP : PT kU (grdT p t s at_ sh 6) F v w) (hF : Bnd F w) (hO : ∀ j, F j → j < lo ∨ hi ≤ j) (hM : MemIn lo hi L M w) :
    Calls Try.prog 35 #[v, .pointer (some ⟨L.bm, 0, none⟩), .agg #[.int .i64 0, .int .u64 (U 1#64)], .int .i64 9] w (RetGrdH p lo hi L M (3 * t + s).toNat sh x w) := by
  obtain ⟨M', c, r1, r2, r3, r4⟩ := grd_alone hp hG h0 h1 h2 h3 ha0 ha1 ha sh x hx
  exact (run_U (grdT p t s at_ sh 6) F v 0 1#64 9 w _ (by omega) r1 hP hF hO hM).mono fun e w' ⟨g1, g2, g3⟩ => ⟨M', c, g1, g2, g3, r2, r3, r4⟩
set_option maxRecDepth 8000 in
set_option maxHeartbeats 1000000 in
/-- What a program asks next. -/
theorem access_U (a : Acc) (f : BitVec 64 → Tr (BitVec 64)) (F : Nat → Prop) (v : Value) (w : World) (hP : PT kU (.ask a f) F v w) :
    Calls Try.prog 31 #[v] w (Ret (.tuple #[.agg #[.int .i64 a.op, .int .i64 a.at_, .int .u64 (U a.a), .int .u64 (U a.b)], .bool true]) w) := by
  obtain ⟨g, caps, rfl, _⟩ := hP
  have n0 : ∀ f x y w, (binOp .neq 77 (.func f x y) .nilFunc).run Try.prog w = .ok (.bool true) w := fun f x y w => neq_fn w fnU f x y
  show Calls Try.prog 31 #[.agg #[.int .u64 0, .int .i64 a.op, .int .i64 a.at_, .int .u64 (U a.a), .int .u64 (U a.b), .func (.func g) #[] caps, .pointer none]] w _
  go_enter Try.func31, Try.ntmps31
  go_wp2
  go_region
  all_goals (try go_wp2)
  exact bodyPost_ret (v := .tuple #[.agg #[.int .i64 a.op, .int .i64 a.at_, .int .u64 (U a.a), .int .u64 (U a.b)], .bool true]) (by simp [results, Try.results31, go_sem]) rfl (Ret.mk (ext_drew (ext_alloc _ (ext_alloc _ (ext_refl w)))))
end Go.Proofs.Ytkjbfhcgldgkaaa

/-
  A program of words in its box, and a Guard's step as a call. Conditions: those of each theorem.
-/
namespace Go.Proofs.Ytkjbfhcgldgkaaa
open Go Go.RowKit

/-- The program t stands in the box BQ. -/
structure QU (lo hi BQ : Nat) (t : Tr (BitVec 64)) (F : Nat → Prop) (vq : Value) (wr : World) : Prop where
  pt : PT kU t F vq wr
  bn : Bnd F wr
  of : ∀ j, F j → (j < lo ∨ hi ≤ j) ∧ j ≠ BQ
  box : ∃ (y : Int) (a : Acc) (fn : Value), vq = .agg #[.int .u64 y, .int .i64 a.op, .int .i64 a.at_, .int .u64 (U a.a), .int .u64 (U a.b), fn, .pointer none] ∧ (fn = .nilFunc ∨ ∃ g caps, fn = .func (.func g) #[] caps) ∧ wr.heap[BQ]? = some (.cells #[.int .u64 y, .int .i64 a.op, .int .i64 a.at_, .int .u64 (U a.a), .int .u64 (U a.b), fn, .pointer none] 79)
section
variable {lo hi BQ : Nat} {t : Tr (BitVec 64)} {F : Nat → Prop} {vq : Value} {wr wr' : World}
theorem QU.keep (h : QU lo hi BQ t F vq wr) (hs : wr.heap.size ≤ wr'.heap.size) (hk : ∀ j, (F j ∨ j = BQ) → wr'.heap[j]? = wr.heap[j]?) : QU lo hi BQ t F vq wr' := by
  obtain ⟨y, a, fn, h1, h2, h3⟩ := h.box
  exact ⟨h.pt.agr fun j hj => hk j (.inl hj), h.bn.ext hs, h.of, y, a, fn, h1, h2, (hk BQ (.inr rfl)).trans h3⟩
theorem QU.lt (h : QU lo hi BQ t F vq wr) : ∀ j, (F j ∨ j = BQ) → j < wr.heap.size := fun j hj => by
  rcases hj with hj | rfl
  · exact h.bn j hj
  · obtain ⟨_, _, _, _, _, h3⟩ := h.box
    exact heap_lt h3
theorem QU.ext (h : QU lo hi BQ t F vq wr) (hx : Ext wr wr') : QU lo hi BQ t F vq wr' := h.keep hx.size fun j hj => hx.block j (h.lt j hj)
theorem QU.fr (h : QU lo hi BQ t F vq wr) (hx : Fr lo hi wr wr') (hb : BQ < lo ∨ hi ≤ BQ) : QU lo hi BQ t F vq wr' := h.keep hx.size fun j hj => hx.block j (h.lt j hj) (by
  rcases hj with hj | rfl
  · exact (h.of j hj).1
  · exact hb)
theorem QU.new {w2 : World} {y : Int} {a : Acc} {fn : Value} (h1 : PT kU t F (.agg #[.int .u64 y, .int .i64 a.op, .int .i64 a.at_, .int .u64 (U a.a), .int .u64 (U a.b), fn, .pointer none]) w2) (h2 : Bnd F w2) (h3 : ∀ j, F j → j < lo ∨ hi ≤ j) (hfn : fn = .nilFunc ∨ ∃ g caps, fn = .func (.func g) #[] caps) (hB : BQ = w2.heap.size) :
    QU lo hi BQ t F (.agg #[.int .u64 y, .int .i64 a.op, .int .i64 a.at_, .int .u64 (U a.a), .int .u64 (U a.b), fn, .pointer none]) (w2.alloc (.cells #[.int .u64 y, .int .i64 a.op, .int .i64 a.at_, .int .u64 (U a.a), .int .u64 (U a.b), fn, .pointer none] 79)) := by
  have hx := ext_alloc (.cells #[.int .u64 y, .int .i64 a.op, .int .i64 a.at_, .int .u64 (U a.a), .int .u64 (U a.b), fn, .pointer none] 79) (ext_refl w2)
  refine ⟨h1.agr (Agr.of_ext hx h2), h2.ext hx.size, fun j hj => ⟨h3 j hj, ?_⟩, y, a, fn, rfl, hfn, heap_at _ _ _ hB⟩
  have := h2 j hj
  omega
end
/-- A guard's step. -/
theorem step_GU {p : Pl} {t s at_ : Int} {sh lo hi BQ N N' : Nat} {L : Lay} {M M' : MS} {g g' : GS} {F : Nat → Prop} {vq : Value} {wr : World} (h : QU lo hi BQ (gdT p t s at_ sh N g) F vq wr) (hM : MemIn lo hi L M wr) (hS : GStep p t s at_ sh M N g M' N' g') :
    Calls Try.prog 32 #[vq, .pointer (some ⟨L.bm, 0, none⟩), .agg #[.int .i64 0, .int .u64 (U 1#64)]] wr (RetS kU lo hi L M' (gdT p t s at_ sh N' g') F wr) := by
  obtain ⟨a, f, h1, h2, rfl, h4⟩ := hS
  have hp := h.pt
  rw [h1] at hp
  rw [← h4]
  exact stepA_U a f F vq 0 1#64 wr hp h.bn (fun j hj => (h.of j hj).1) hM h2 _ (Lib.hid rfl)
section
variable {p : Pl} {lo hi : Nat} {L : Lay} {B : Nat} {w0 : World} {M : MS} {wr : World}
theorem HIn.put7 (h : HIn p lo hi L B w0 M wr) {b : Nat} (x0 x1 x2 x3 x4 x5 x6 : Value) (hb : hi ≤ b) (hw : w0.heap.size ≤ b) (hB : B ≠ b) : HIn p lo hi L B w0 M (put7 b x0 x1 x2 x3 x4 x5 x6 wr) :=
  ⟨put7_mem _ _ _ _ _ _ _ h.m hb, h.mg, put7_ext _ _ _ _ _ _ _ h.ex hw, (put7_other _ _ _ _ _ _ _ hB).trans h.pb⟩
/-- A program is stored into its box. -/
theorem QU.stored {BQ : Nat} {t' : Tr (BitVec 64)} {F' : Nat → Prop} {y y' : Int} {a a' : Acc} {fn fn' : Value} (hb : wr.heap[BQ]? = some (.cells #[.int .u64 y, .int .i64 a.op, .int .i64 a.at_, .int .u64 (U a.a), .int .u64 (U a.b), fn, .pointer none] 79))
    (h1 : PT kU t' F' (.agg #[.int .u64 y', .int .i64 a'.op, .int .i64 a'.at_, .int .u64 (U a'.a), .int .u64 (U a'.b), fn', .pointer none]) wr) (h2 : Bnd F' wr) (h3 : ∀ j, F' j → (j < lo ∨ hi ≤ j) ∧ j ≠ BQ) (hfn : fn' = .nilFunc ∨ ∃ g caps, fn' = .func (.func g) #[] caps) :
    QU lo hi BQ t' F' (.agg #[.int .u64 y', .int .i64 a'.op, .int .i64 a'.at_, .int .u64 (U a'.a), .int .u64 (U a'.b), fn', .pointer none]) (put7 BQ (.int .u64 y') (.int .i64 a'.op) (.int .i64 a'.at_) (.int .u64 (U a'.a)) (.int .u64 (U a'.b)) fn' (.pointer none) wr) :=
  ⟨h1.agr (Agr.of_put7 _ _ _ _ _ _ _ fun h => (h3 _ h).2 rfl), h2.ext (by rw [put7_size]; exact Nat.le_refl _), h3, y', a', fn', rfl, hfn, put7_block _ _ _ _ _ _ _ hb⟩
/-- A program is stored into another box. -/
theorem QU.put7 {BQ : Nat} {t : Tr (BitVec 64)} {F : Nat → Prop} {vq : Value} (h : QU lo hi BQ t F vq wr) {b : Nat} (x0 x1 x2 x3 x4 x5 x6 : Value) (hn : ¬ F b) (hb : BQ ≠ b) : QU lo hi BQ t F vq (put7 b x0 x1 x2 x3 x4 x5 x6 wr) :=
  h.keep (by rw [put7_size]; exact Nat.le_refl _) fun j hj => put7_other _ _ _ _ _ _ _ fun e => by
    subst e
    rcases hj with hj | hj
    · exact hn hj
    · exact hb hj.symm
end
/-- What a block holds. -/
def Blk (b : Nat) (o : Obj) (w : World) : Prop := w.heap[b]? = some o
theorem Blk.ext {b : Nat} {o : Obj} {w w' : World} (h : Blk b o w) (hx : Ext w w') : Blk b o w' := (hx.block _ (heap_lt h)).trans h
theorem Blk.fr {b lo hi : Nat} {o : Obj} {w w' : World} (h : Blk b o w) (hx : Fr lo hi w w') (hb : hi ≤ b) : Blk b o w' := (hx.block _ (heap_lt h) (.inr hb)).trans h
theorem Blk.put7 {b b' : Nat} {o : Obj} {w : World} (h : Blk b o w) (x0 x1 x2 x3 x4 x5 x6 : Value) (hb : b ≠ b') : Blk b o (put7 b' x0 x1 x2 x3 x4 x5 x6 w) := (put7_other _ _ _ _ _ _ _ hb).trans h
theorem Blk.lt {b : Nat} {o : Obj} {w : World} (h : Blk b o w) : b < w.heap.size := heap_lt h
theorem ov_gd (p : Pl) (t s at_ : Int) (sh N : Nat) {g : GS} (h : g.isDn = false) : ansT kU (gdT p t s at_ sh N g) = .int .u64 0 ∧ ovT (gdT p t s at_ sh N g) = false := by
  cases g with
  | dn x => cases h
  | ld => exact ⟨rfl, rfl⟩
  | st x => exact ⟨rfl, rfl⟩
  | rl x => exact ⟨rfl, rfl⟩
end Go.Proofs.Ytkjbfhcgldgkaaa
