/-
  What the calls of Step come to. Conditions: those of each theorem.
-/
import Derived.Test.YthepcnffadjeaaaProgList
namespace Go.Proofs.Ythepcnffadjeaaa
open Go Go.RowKit

theorem put7_frNew {lo hi : Nat} {a w : World} {b : Nat} (x0 x1 x2 x3 x4 x5 x6 : Value) (h : Fr lo hi a w) (hb : a.heap.size ≤ b) : Fr lo hi a (put7 b x0 x1 x2 x3 x4 x5 x6 w) :=
  ((((((h.setNew (p := ⟨b, 0, none⟩) x0 hb).setNew (p := ⟨b, 1, none⟩) x1 hb).setNew (p := ⟨b, 2, none⟩) x2 hb).setNew (p := ⟨b, 3, none⟩) x3 hb).setNew (p := ⟨b, 4, none⟩) x4 hb).setNew (p := ⟨b, 5, none⟩) x5 hb).setNew (p := ⟨b, 6, none⟩) x6 hb
theorem put7_mem {lo hi : Nat} {L : Lay} {M : MS} {w : World} {b : Nat} (x0 x1 x2 x3 x4 x5 x6 : Value) (h : MemIn lo hi L M w) (hb : hi ≤ b) : MemIn lo hi L M (put7 b x0 x1 x2 x3 x4 x5 x6 w) :=
  ((((((h.setFar (p := ⟨b, 0, none⟩) x0 (.inr hb)).setFar (p := ⟨b, 1, none⟩) x1 (.inr hb)).setFar (p := ⟨b, 2, none⟩) x2 (.inr hb)).setFar (p := ⟨b, 3, none⟩) x3 (.inr hb)).setFar (p := ⟨b, 4, none⟩) x4 (.inr hb)).setFar (p := ⟨b, 5, none⟩) x5 (.inr hb)).setFar (p := ⟨b, 6, none⟩) x6 (.inr hb)
def RetStep (D : Nat → Prop) (lo hi : Nat) (L : Lay) (M' : MS) (l : List Acc) (t : List (BitVec 64)) (w : World) (e : Ending) (w' : World) : Prop :=
  ∃ v, e = .returned (.tuple #[v, .bool true]) ∧ PL D l t v w' ∧ MemIn lo hi L M' w' ∧ Fr lo hi w w'

set_option maxRecDepth 8000 in
set_option maxHeartbeats 2000000 in
theorem step_yes (D : Nat → Prop) {lo hi : Nat} {L : Lay} {M : MS} (a : Acc) (l : List Acc) (t : List (BitVec 64)) (v : Value) (r : Int) (e : BitVec 64) (w : World) (hP : PH D (a :: l) t v w) (hM : MemIn lo hi L M w) (hd : DoOk M r e a.op a.at_)
    (hD : ∀ k, lo ≤ k → k < hi → D k) (hb : ∀ k, D k → k < w.heap.size) :
    Calls Try.prog 36 #[v, .pointer (some ⟨L.bm, 0, none⟩), .agg #[.int .i64 r, .int .u64 (U e)]] w (RetStep D lo hi L (M.done r a.op a.at_ a.a a.b) l (t ++ [M.wd r.toNat a.at_.toNat]) w) := by
  obtain ⟨g, caps, parts, rfl, hg, hc⟩ := hP
  have HC := Lib.hid hc
  have HM := Lib.hid hM
  have HDO := Lib.hid hd
  have hhi := hM.top
  clear hc hM hd
  have n0 : ∀ f x y w, (binOp .eql 84 (.func f x y) .nilFunc).run Try.prog w = .ok (.bool false) w := fun f x y w => eql_fn w fnUs f x y
  unfold pV
  go_enter Try.func36, Try.ntmps36
  go_wp2_with (go_at_call 46; refine Hid.out ?_)
  refine Lib.hid ?_
  have hb3 := heap_at ((w.alloc (.cells #[.slice none 0 0, .int .i64 a.op, .int .i64 a.at_, .int .u64 (U a.a), .int .u64 (U a.b), .func (.func g) #[] caps, .pointer parts] 87)).alloc (.cells #[.int .i64 r, .int .u64 (U e)] 45)) (.cells #[.slice none 0 0, .int .i64 0, .int .i64 0, .int .u64 0, .int .u64 0, .nilFunc, .pointer none] 87) (w.heap.size + 1 + 1) (by simp)
  have hb1 := cell_at (o := 5) (heap_at w (.cells #[.slice none 0 0, .int .i64 a.op, .int .i64 a.at_, .int .u64 (U a.a), .int .u64 (U a.b), .func (.func g) #[] caps, .pointer parts] 87) w.heap.size rfl) rfl
  have hb1' := ext_cell (ext_alloc (.cells #[.slice none 0 0, .int .i64 0, .int .i64 0, .int .u64 0, .int .u64 0, .nilFunc, .pointer none] 87) (ext_alloc (.cells #[.int .i64 r, .int .u64 (U e)] 45) (ext_refl _))) hb1
  have hEW : Ext w (((w.alloc (.cells #[.slice none 0 0, .int .i64 a.op, .int .i64 a.at_, .int .u64 (U a.a), .int .u64 (U a.b), .func (.func g) #[] caps, .pointer parts] 87)).alloc (.cells #[.int .i64 r, .int .u64 (U e)] 45)).alloc (.cells #[.slice none 0 0, .int .i64 0, .int .i64 0, .int .u64 0, .int .u64 0, .nilFunc, .pointer none] 87)) := ext_alloc _ (ext_alloc _ (ext_alloc _ (ext_refl w)))
  have hz : (((w.alloc (.cells #[.slice none 0 0, .int .i64 a.op, .int .i64 a.at_, .int .u64 (U a.a), .int .u64 (U a.b), .func (.func g) #[] caps, .pointer parts] 87)).alloc (.cells #[.int .i64 r, .int .u64 (U e)] 45)).alloc (.cells #[.slice none 0 0, .int .i64 0, .int .i64 0, .int .u64 0, .int .u64 0, .nilFunc, .pointer none] 87)).heap.size = w.heap.size + 1 + 1 + 1 := by simp
  clear hb1
  generalize (((w.alloc (.cells #[.slice none 0 0, .int .i64 a.op, .int .i64 a.at_, .int .u64 (U a.a), .int .u64 (U a.b), .func (.func g) #[] caps, .pointer parts] 87)).alloc (.cells #[.int .i64 r, .int .u64 (U e)] 45)).alloc (.cells #[.slice none 0 0, .int .i64 0, .int .i64 0, .int .u64 0, .int .u64 0, .nilFunc, .pointer none] 87)) = W at hb3 hb1' hEW hz ⊢
  refine (do_yes (HM.out.ext hEW) r a.op a.at_ e a.a a.b HDO.out).mono ?_
  rintro e1 w1 ⟨rfl, hm1, hf1⟩
  have hs1 := hf1.size
  have k5 : w1.cell? ⟨w.heap.size, 5, none⟩ = some (.func (.func g) #[] caps) := by
    rw [hf1.cell (by omega) (.inr hhi)]; exact hb1'
  have hb31 : w1.heap[w.heap.size + 1 + 1]? = _ := (hf1.block _ (by omega) (.inr (by omega))).trans hb3
  have HM1 := Lib.hid hm1
  have HF1 := Lib.hid ((Fr.of_ext hEW).trans hf1)
  have HB1 := Lib.hid hb31
  generalize M.wd r.toNat a.at_.toNat = x at *
  have HCX : Hid (Calls Try.prog g (#[.int .u64 (U x)] ++ caps) w1 fun e w'' => ∃ v', e = .returned v' ∧ Ext w1 w'' ∧ PL (fun k => D k ∨ k = w.heap.size + 1 + 1) l (t ++ [x]) v' w'') := by
    refine Lib.hid (HC.out _ (fun k hk => ⟨fun h => h.resolve_right (by omega), .inl⟩) x w1 (FD.of_fr HF1.out fun k h1 h2 => .inl (hD k h1 h2)) fun k hk => ?_)
    rcases hk with hk | rfl
    · have := hb k hk; omega
    · omega
  have lw1 : w.heap.size < w1.heap.size := by omega
  clear hm1 hf1 hb3 hb1' hb31 hEW HC HM HDO
  go_wp2_with (refine HCX.out.mono ?_; rintro e2 w2 ⟨v', rfl, hx, hp⟩; refine Hid.out ?_)
  refine Lib.hid ?_
  have HX2 := Lib.hid hx
  have HP := Lib.hid hp
  obtain ⟨sa, n, c, a', fn, rfl, hfn⟩ := hp.shape
  have HFN := Lib.hid hfn
  have hbx := (hx.block _ (heap_lt HB1.out)).trans HB1.out
  clear hx hp hfn
  obtain ⟨cc0, cc1, cc2, cc3, cc4, cc5, cc6, cz, ll⟩ := sev_of hbx
  have HBX := Lib.hid hbx
  clear hbx
  have HM2 := Lib.hid (HM1.out.ext HX2.out)
  have HF2 := Lib.hid (HF1.out.ext HX2.out)
  have hX := put7_frNew (b := w.heap.size + 1 + 1) (.slice sa n c) (.int .i64 a'.op) (.int .i64 a'.at_) (.int .u64 (U a'.a)) (.int .u64 (U a'.b)) fn (.pointer none) HF2.out (by omega)
  have hMM := put7_mem (b := w.heap.size + 1 + 1) (.slice sa n c) (.int .i64 a'.op) (.int .i64 a'.at_) (.int .u64 (U a'.a)) (.int .u64 (U a'.b)) fn (.pointer none) HM2.out (by omega)
  have hB := put7_block (.slice sa n c) (.int .i64 a'.op) (.int .i64 a'.at_) (.int .u64 (U a'.a)) (.int .u64 (U a'.b)) fn (.pointer none) HBX.out
  have hP := PL.mono (D := D) (fun k hk => .inl hk) (HP.out.fr (put7_fd (w := w2) (b := w.heap.size + 1 + 1) (.slice sa n c) (.int .i64 a'.op) (.int .i64 a'.at_) (.int .u64 (U a'.a)) (.int .u64 (U a'.b)) fn (.pointer none) (.inr rfl)))
  rw [put7] at hB hX hP hMM
  have HB2 := Lib.hid hB
  have HX3 := Lib.hid hX
  have HP3 := Lib.hid hP
  have HMM := Lib.hid hMM
  clear hB hX hP hMM HP
  unfold pV at HP3 ⊢
  rcases HFN.out with rfl | ⟨g', caps', rfl⟩
  all_goals
    go_wp2
    clear cc0 cc1 cc2 cc3 cc4 cc5 cc6 cz ll
    replace HB2 := HB2.out
    replace HX3 := HX3.out
    replace HP3 := HP3.out
    replace HMM := HMM.out
    generalize (World.setCell _ (⟨w.heap.size + 1 + 1, 6, none⟩ : Addr) _) = Z at HB2 HX3 HP3 HMM ⊢
    obtain ⟨c0, c1, c2, c3, c4, c5, c6, cz, ll⟩ := sev_of HB2
    exact bodyPost_ret (by simp only [results, Try.results36, go_sem]; simp [go_sem, c0, c1, c2, c3, c4, c5, c6]) rfl ⟨_, rfl, HP3, HMM, HX3⟩

set_option maxRecDepth 8000 in
set_option maxHeartbeats 2000000 in
theorem step_no (D : Nat → Prop) {lo hi : Nat} {L : Lay} {M : MS} (a : Acc) (l : List Acc) (t : List (BitVec 64)) (v : Value) (r : Int) (e : BitVec 64) (w : World) (hP : PH D (a :: l) t v w) (hM : MemIn lo hi L M w) (hd : ¬ DoOk M r e a.op a.at_) :
    Calls Try.prog 36 #[v, .pointer (some ⟨L.bm, 0, none⟩), .agg #[.int .i64 r, .int .u64 (U e)]] w (Ret (.tuple #[v, .bool false]) w) := by
  obtain ⟨g, caps, parts, rfl, hg, hc⟩ := hP
  have HM := Lib.hid hM
  have HDO := Lib.hid hd
  have hhi := hM.top
  clear hc hM hd
  have n0 : ∀ f x y w, (binOp .eql 84 (.func f x y) .nilFunc).run Try.prog w = .ok (.bool false) w := fun f x y w => eql_fn w fnUs f x y
  unfold pV
  go_enter Try.func36, Try.ntmps36
  go_wp2_with (go_at_call 46; refine Hid.out ?_)
  refine Lib.hid ?_
  have hb3 := heap_at ((w.alloc (.cells #[.slice none 0 0, .int .i64 a.op, .int .i64 a.at_, .int .u64 (U a.a), .int .u64 (U a.b), .func (.func g) #[] caps, .pointer parts] 87)).alloc (.cells #[.int .i64 r, .int .u64 (U e)] 45)) (.cells #[.slice none 0 0, .int .i64 0, .int .i64 0, .int .u64 0, .int .u64 0, .nilFunc, .pointer none] 87) (w.heap.size + 1 + 1) (by simp)
  have hb1 : (((w.alloc (.cells #[.slice none 0 0, .int .i64 a.op, .int .i64 a.at_, .int .u64 (U a.a), .int .u64 (U a.b), .func (.func g) #[] caps, .pointer parts] 87)).alloc (.cells #[.int .i64 r, .int .u64 (U e)] 45)).alloc (.cells #[.slice none 0 0, .int .i64 0, .int .i64 0, .int .u64 0, .int .u64 0, .nilFunc, .pointer none] 87)).heap[w.heap.size]? = some (.cells #[.slice none 0 0, .int .i64 a.op, .int .i64 a.at_, .int .u64 (U a.a), .int .u64 (U a.b), .func (.func g) #[] caps, .pointer parts] 87) := by
    rw [Below.heap_alloc _ _ _ (by simp; omega), Below.heap_alloc _ _ _ (by simp)]
    exact heap_at w _ _ rfl
  have hEW : Ext w (((w.alloc (.cells #[.slice none 0 0, .int .i64 a.op, .int .i64 a.at_, .int .u64 (U a.a), .int .u64 (U a.b), .func (.func g) #[] caps, .pointer parts] 87)).alloc (.cells #[.int .i64 r, .int .u64 (U e)] 45)).alloc (.cells #[.slice none 0 0, .int .i64 0, .int .i64 0, .int .u64 0, .int .u64 0, .nilFunc, .pointer none] 87)) := ext_alloc _ (ext_alloc _ (ext_alloc _ (ext_refl w)))
  generalize (((w.alloc (.cells #[.slice none 0 0, .int .i64 a.op, .int .i64 a.at_, .int .u64 (U a.a), .int .u64 (U a.b), .func (.func g) #[] caps, .pointer parts] 87)).alloc (.cells #[.int .i64 r, .int .u64 (U e)] 45)).alloc (.cells #[.slice none 0 0, .int .i64 0, .int .i64 0, .int .u64 0, .int .u64 0, .nilFunc, .pointer none] 87)) = W at hb3 hb1 hEW ⊢
  refine (do_no (HM.out.ext hEW) r a.op a.at_ e a.a a.b HDO.out).mono ?_
  rintro e1 w1 ⟨rfl, hx⟩
  have hb31 := (hx.block _ (heap_lt hb3)).trans hb3
  have hb11 := (hx.block _ (heap_lt hb1)).trans hb1
  obtain ⟨cc0, cc1, cc2, cc3, cc4, cc5, cc6, cz, ll⟩ := sev_of hb31
  obtain ⟨cd0, cd1, cd2, cd3, cd4, cd5, cd6, cdz, ll'⟩ := sev_of hb11
  have hX := put7_ext (b := w.heap.size + 1 + 1) (.slice none 0 0) (.int .i64 a.op) (.int .i64 a.at_) (.int .u64 (U a.a)) (.int .u64 (U a.b)) (.func (.func g) #[] caps) (.pointer parts) (ext_trans hEW hx) (by omega)
  have hB := put7_block (.slice none 0 0) (.int .i64 a.op) (.int .i64 a.at_) (.int .u64 (U a.a)) (.int .u64 (U a.b)) (.func (.func g) #[] caps) (.pointer parts) hb31
  rw [put7] at hX hB
  have HX := Lib.hid hX
  have HB := Lib.hid hB
  clear hX hB hb3 hb1 hEW hx hb31 hb11
  go_wp2
  replace HX := HX.out
  replace HB := HB.out
  clear cc0 cc1 cc2 cc3 cc4 cc5 cc6 cz ll
  generalize (World.setCell _ (⟨w.heap.size + 1 + 1, 6, none⟩ : Addr) _) = Z at HB HX ⊢
  obtain ⟨c0, c1, c2, c3, c4, c5, c6, cz, ll⟩ := sev_of HB
  exact bodyPost_ret (by simp only [results, Try.results36, go_sem]; simp [go_sem, c0, c1, c2, c3, c4, c5, c6]) rfl (Ret.mk HX)

set_option maxRecDepth 8000 in
set_option maxHeartbeats 2000000 in
theorem step_over (D : Nat → Prop) (t : List (BitVec 64)) (v mv : Value) (r : Int) (e : BitVec 64) (w : World) (hP : PH D [] t v w) :
    Calls Try.prog 36 #[v, mv, .agg #[.int .i64 r, .int .u64 (U e)]] w (Ret (.tuple #[v, .bool false]) w) := by
  obtain ⟨rv, parts, rfl, hU⟩ := hP
  obtain ⟨ra, cap, rfl, _⟩ := id hU
  clear hU
  have n0 : ∀ w, (binOp .eql 84 .nilFunc .nilFunc).run Try.prog w = .ok (.bool true) w := fun w => eql_nil w fnUs
  unfold pV
  go_enter Try.func36, Try.ntmps36
  go_wp2
  exact bodyPost_ret (by simp only [results, Try.results36, go_sem]; simp [go_sem]) rfl (Ret.mk (ext_alloc _ (ext_alloc _ (ext_alloc _ (ext_refl w)))))

end Go.Proofs.Ythepcnffadjeaaa
