/-
  What the calls of rest, done, take, Give, Busy, Waits and Lists come to. Conditions: those of each theorem.
-/
import Derived.Test.YthepcnffadjeaaaThreadM
import Derived.Test.YthepcnffadjeaaaFork
namespace Go.Proofs.Ythepcnffadjeaaa
open Go Go.RowKit

section
variable {D : Nat → Prop} {bm b p c : Nat} {S : WS} {w : World}

/-- A program and the word busy are stored. -/
def putB (b : Nat) (sv : Value) (a : Acc) (fn : Value) (pp : Option Addr) (busy : Bool) (w : World) : World :=
  (putP b sv (.int .i64 a.op) (.int .i64 a.at_) (.int .u64 (U a.a)) (.int .u64 (U a.b)) fn (.pointer pp) w).setCell ⟨b, 4, none⟩ (.bool busy)
theorem putB_block {bu : Bool} {sv0 fn0 : Value} {a0 : Acc} {pp0 : Option Addr} {t : TypeId} {f : Nat × Nat} (sv : Value) (a : Acc) (fn : Value) (pp : Option Addr) (busy : Bool) (h : w.heap[b]? = some (.cells (wC bm p bu sv0 a0 fn0 pp0) t f)) :
    (putB b sv a fn pp busy w).heap[b]? = some (.cells (wC bm p busy sv a fn pp) t f) := by
  unfold wC at h
  have h1 := putP_block sv (.int .i64 a.op) (.int .i64 a.at_) (.int .u64 (U a.a)) (.int .u64 (U a.b)) fn (.pointer pp) h
  have h2 := set_same (o := 4) (.bool busy) h1
  unfold putB
  rw [h2]
  simp [wC]
theorem putB_fd (sv : Value) (a : Acc) (fn : Value) (pp : Option Addr) (busy : Bool) : FD (fun k => k = b) w (putB b sv a fn pp busy w) :=
  fd_one ((putP_fr _ _ _ _ _ _ _).set (p := ⟨b, 4, none⟩) _ (Nat.le_refl _) (Nat.lt_succ_self _))

def RetRest (D : Nat → Prop) (bm b p c : Nat) (S : WS) (v : Value) (w : World) (e : Ending) (w' : World) : Prop :=
  e = .returned v ∧ WorkIn D bm b p c S.rest w' ∧ FD (fun k => k = b) w w'
theorem WorkIn.rests (h : WorkIn D bm b p c S w) : WorkIn D bm b p c S.rest (putB b (.slice none 0 0) accZ .nilFunc none false w) := by
  obtain ⟨sv, a, fn, pp, hk, _⟩ := h.blk
  exact h.lay (putB_fd _ _ _ _ _) (S' := S.rest) (putB_block _ _ _ _ _ hk) ⟨_, _, rfl, UsB.nil _ _⟩ rfl rfl (by simp [WS.rest]) fun _ => ⟨rfl, rfl⟩
set_option maxRecDepth 8000 in
set_option maxHeartbeats 1000000 in
theorem rest_any (h : WorkIn D bm b p c S w) : Calls Try.prog 37 #[.pointer (some ⟨b, 0, none⟩)] w (RetRest D bm b p c S (.tuple #[]) w) := by
  have HR := Lib.hid h.rests
  have HF := Lib.hid (putB_fd (b := b) (w := w) (.slice none 0 0) accZ .nilFunc none false)
  obtain ⟨sv, a, fn, pp, hk, _⟩ := h.blk
  unfold wC at hk
  obtain ⟨c0, c1, c2, c3, c4, c5, c6, c7, c8, c9, c10, c11, cz, ll⟩ := twe_of hk
  have l1 : b < w.heap.size + 1 := by omega
  clear h hk
  go_enter Try.func37, Try.ntmps37
  go_wp2
  have hr := HR.out
  have hf := HF.out
  unfold putB putP accZ at hr hf
  rw [U_0] at hr hf
  exact bodyPost_ret (v := .tuple #[]) (by simp [results, Try.results37, go_sem]) rfl ⟨rfl, hr.ext (ext_alloc _ (ext_refl _)), fd_ext hf (ext_alloc _ (ext_refl _))⟩

set_option maxRecDepth 8000 in
set_option maxHeartbeats 1000000 in
theorem done_any (h : WorkIn D bm b p c S w) (ra : Option Addr) (n cp : Nat) : Calls Try.prog 35 #[.pointer (some ⟨b, 0, none⟩), .slice ra n cp] w (RetRest D bm b p c S (.agg #[.int .i64 2, .slice ra n cp]) w) := by
  have HW := Lib.hid ((h.plus (Nat.le_refl _)).ext (ext_alloc (.cells #[.int .i64 0, .slice none 0 0] 57) (ext_refl w)))
  have hb := h.ltb
  have hp := h.ltp
  have hc := h.ltc
  have HD := Lib.hid h.inD
  clear h
  go_enter Try.func35, Try.ntmps35
  go_wp2_with (go_at_call 37; refine (rest_any HW.out).mono ?_; rintro e w' ⟨rfl, hw, hf⟩; refine Hid.out ?_)
  refine Lib.hid ?_
  have hk := (hf.block w.heap.size (by simp) (by omega)).trans (heap_at w (.cells #[.int .i64 0, .slice none 0 0] 57) w.heap.size rfl)
  have d0 : w'.cell? ⟨w.heap.size, 0, none⟩ = some (.int .i64 0) := cell_at hk rfl
  have d1 : w'.cell? ⟨w.heap.size, 1, none⟩ = some (.slice none 0 0) := cell_at hk rfl
  have dz := fun o => free_at (o := o) hk
  have dl := heap_lt hk
  have HF := Lib.hid ((FD.of_ext (D := fun k => k = b) (ext_alloc (.cells #[.int .i64 0, .slice none 0 0] 57) (ext_refl w))).trans hf)
  have HW2 := Lib.hid hw
  clear hk hw hf HW
  go_wp2
  exact bodyPost_ret (v := .agg #[.int .i64 2, .slice ra n cp]) (by simp [results, Try.results35, go_sem, d0, d1]) rfl ⟨rfl, ((HW2.out.setX 0 _ (by omega) (by omega) (by omega)).setX 1 _ (by omega) (by omega) (by omega)).minus HD.out, (HF.out.setNew _ (Nat.le_refl _)).setNew _ (Nat.le_refl _)⟩

set_option maxRecDepth 8000 in
set_option maxHeartbeats 1000000 in
theorem takeW_none (h : WorkIn D bm b p c S w) (hq : S.q = []) : Calls Try.prog 33 #[.pointer (some ⟨b, 0, none⟩)] w fun e w' => e = .returned (.bool false) ∧ w = w' := by
  obtain ⟨sv, a, fn, pp, hk, _⟩ := h.blk
  obtain ⟨qv, hB, hQ⟩ := h.box
  unfold wC at hk
  obtain ⟨c0, c1, c2, c3, c4, c5, c6, c7, c8, c9, c10, c11, cz, ll⟩ := twe_of hk
  have hl := hQ.len
  rw [hq] at hl
  obtain rfl : qv = [] := List.eq_nil_of_length_eq_zero hl
  have HB := Lib.hid hB
  clear hB hQ hl hk h
  go_enter Try.func33, Try.ntmps33
  go_wp2_with (go_at_call 44; refine (take_acc_none HB.out).mono ?_; rintro e w' ⟨rfl, rfl⟩)
  go_ret
  exact ⟨rfl, rfl⟩

def RetTake (D : Nat → Prop) (bm b p c : Nat) (S : WS) (w : World) (e : Ending) (w' : World) : Prop :=
  e = .returned (.bool true) ∧ WorkIn D bm b p c S w' ∧ FD (fun k => k = b ∨ k = c) w w'
set_option maxRecDepth 8000 in
set_option maxHeartbeats 1000000 in
theorem takeW_some (h : WorkIn D bm b p c S w) (l : List Acc) (q : List (List Acc)) (hq : S.q = l :: q) (hb : ∀ k, D k → k < w.heap.size) : Calls Try.prog 33 #[.pointer (some ⟨b, 0, none⟩)] w (RetTake D bm b p c (S.begin l q) w) := by
  have HW := Lib.hid h
  obtain ⟨sv, a, fn, pp, hk, _⟩ := h.blk
  obtain ⟨qv, hB, hQ⟩ := h.box
  have HK := Lib.hid hk
  unfold wC at hk
  obtain ⟨c0, c1, c2, c3, c4, c5, c6, c7, c8, c9, c10, c11, cz, ll⟩ := twe_of hk
  rw [hq] at hQ
  obtain ⟨v, vs, rfl⟩ : ∃ v vs, qv = v :: vs := by
    cases qv with
    | nil => exact hQ.elim
    | cons v vs => exact ⟨v, vs, rfl⟩
  have HB := Lib.hid hB
  have HQ := Lib.hid hQ
  have hcb := h.nec
  clear hB hQ hk h
  go_enter Try.func33, Try.ntmps33
  go_wp2_with (go_at_call 44; refine (take_acc_some v HB.out).mono ?_; rintro e w1 ⟨rfl, hB1, hF1, hs1⟩; refine Hid.out ?_)
  refine Lib.hid ?_
  have hfd : FD (fun k => k = c) w w1 := fd_one hF1
  have hfD : FD D w w1 := hfd.wide fun k hk => by rw [hk]; exact HW.out.inD.2
  have HA1 := Lib.hid (HQ.out.1.fr hfD)
  have HQ1 := Lib.hid (HQ.out.2.fr hfD)
  have hk1 := (hfd.block b ll (fun e => hcb e.symm)).trans HK.out
  have HK1 := Lib.hid hk1
  unfold wC at hk1
  clear c0 c1 c2 c3 c4 c5 c6 c7 c8 c9 c10 c11 cz ll
  obtain ⟨c0, c1, c2, c3, c4, c5, c6, c7, c8, c9, c10, c11, cz, ll⟩ := twe_of hk1
  have HB1 := Lib.hid hB1
  have HF1 := Lib.hid hfd
  clear hk1 hB1 hF1 hfd hfD HB HQ HK
  have hsm : l.length ≤ 900 := HW.out.small l (by rw [hq]; simp)
  go_wp2_with (go_at_call 28; refine (list_any D l v w1 (HA1.out.more fun _ _ h => h.elim) (by omega) (fun k hk => by have := hb k hk; omega)).mono ?_; rintro e w2 ⟨v2, rfl, hx, hp⟩; refine Hid.out ?_)
  refine Lib.hid ?_
  obtain ⟨sa, n, cp, a', fn', rfl, hfn⟩ := hp.shape
  have hsf := store_fn hfn
  have hk2 := (hx.block b ll).trans HK1.out
  have HK2 := Lib.hid hk2
  unfold wC at hk2
  clear c0 c1 c2 c3 c4 c5 c6 c7 c8 c9 c10 c11 cz ll
  obtain ⟨c0, c1, c2, c3, c4, c5, c6, c7, c8, c9, c10, c11, cz, ll⟩ := twe_of hk2
  have hFD2 : FD (fun k => k = c) w w2 := fd_ext HF1.out hx
  have hpf := putB_fd (b := b) (w := w2) (.slice sa n cp) a' fn' none true
  have HW2 : Hid (WorkIn D bm b p c (S.begin l q) (putB b (.slice sa n cp) a' fn' none true w2)) := by
    have hpD : FD D w2 (putB b (.slice sa n cp) a' fn' none true w2) := hpf.wide fun k hk => by rw [hk]; exact HW.out.inD.1
    refine Lib.hid ⟨⟨_, _, _, _, putB_block _ _ _ _ _ HK2.out, (hp.fr hpD).h⟩, ⟨vs, ?_, (HQ1.out.fr (.of_ext hx)).fr hpD⟩, ?_, ?_, by simpa [WS.begin] using hsm, fun h => (by cases h), HW.out.inD⟩
    · have hB2 := HB1.out.ext hx
      obtain ⟨s, r, hcc⟩ := hB2.chan
      exact ⟨(hpf.cell hB2.ltp HW.out.nep).trans hB2.cell, s, r, (hpf.block c hB2.ltc HW.out.nec).trans hcc⟩
    · have := HW.out.room
      rw [hq] at this
      simp [WS.begin] at this ⊢
      omega
    · intro l' hl'
      exact HW.out.small l' (by rw [hq]; exact List.mem_cons_of_mem _ hl')
  have HF2 : Hid (FD (fun k => k = b ∨ k = c) w (putB b (.slice sa n cp) a' fn' none true w2)) := Lib.hid ((hFD2.wide fun _ hk => .inr hk).trans (hpf.wide fun _ hk => .inl hk))
  clear hp hx hfn hk2 HK2 HK1 HA1 HQ1 HB1 HF1 hFD2 hpf
  unfold putB putP at HW2 HF2
  unfold pV
  go_wp2
  go_ret
  exact ⟨rfl, HW2.out, HF2.out⟩
end

/-! What callers ask, and give. -/
section
variable {D : Nat → Prop} {bm b p c : Nat} {S : WS} {w : World}
theorem busy_any (h : WorkIn D bm b p c S w) : Calls Try.prog 21 #[.pointer (some ⟨b, 0, none⟩)] w fun e w' => e = .returned (.bool S.busy) ∧ w = w' := by
  obtain ⟨sv, a, fn, pp, hk, _⟩ := h.blk
  unfold wC at hk
  obtain ⟨c0, c1, c2, c3, c4, c5, c6, c7, c8, c9, c10, c11, cz, ll⟩ := twe_of hk
  clear hk h
  go_enter Try.func21, Try.ntmps21
  go_wp2
  go_ret
  exact ⟨rfl, rfl⟩
theorem waits_any (h : WorkIn D bm b p c S w) : Calls Try.prog 22 #[.pointer (some ⟨b, 0, none⟩)] w fun e w' => e = .returned (.int .i64 (S.q.length : Int)) ∧ w = w' := by
  obtain ⟨sv, a, fn, pp, hk, _⟩ := h.blk
  obtain ⟨qv, hB, hQ⟩ := h.box
  unfold wC at hk
  obtain ⟨c0, c1, c2, c3, c4, c5, c6, c7, c8, c9, c10, c11, cz, ll⟩ := twe_of hk
  have HB := Lib.hid hB
  have hl := hQ.len
  rw [← hl]
  clear hB hQ hl hk h
  go_enter Try.func22, Try.ntmps22
  go_wp2_with (go_at_call 39; refine (len_acc HB.out).mono ?_; rintro e w' ⟨rfl, rfl⟩)
  go_ret
  exact ⟨rfl, rfl⟩
def RetGive (D : Nat → Prop) (bm b p c : Nat) (S : WS) (v : Value) (w : World) (e : Ending) (w' : World) : Prop :=
  e = .returned v ∧ WorkIn D bm b p c S w' ∧ FD (fun k => k = c) w w'
set_option maxRecDepth 8000 in
set_option maxHeartbeats 1000000 in
theorem give_room (h : WorkIn D bm b p c S w) (l : List Acc) (v : Value) (hA : AsB (fun _ => False) w v l) (hl : l.length ≤ 900) (hq : S.q.length < S.n) (hb : ∀ k, D k → k < w.heap.size) :
    Calls Try.prog 15 #[.pointer (some ⟨b, 0, none⟩), v] w (RetGive D bm b p c (S.give l) (.int .i64 0) w) := by
  have HW := Lib.hid h
  have HA := Lib.hid hA
  obtain ⟨sv, a, fn, pp, hk, _⟩ := h.blk
  obtain ⟨qv, hB, hQ⟩ := h.box
  unfold wC at hk
  obtain ⟨c0, c1, c2, c3, c4, c5, c6, c7, c8, c9, c10, c11, cz, ll⟩ := twe_of hk
  have HB := Lib.hid hB
  have HQ := Lib.hid hQ
  have hqn : qv.length < S.n := by rw [hQ.len]; exact hq
  obtain ⟨a0, cap, rfl, _⟩ := hA
  clear hB hQ hk h
  go_enter Try.func15, Try.ntmps15
  go_wp2
  refine wp_region_mix (fun x => ∃ s, x = off1 c w s) [(0, [0, 1, 2, 3, 4, 5, 6, 7, 8]), (1, [9]), (1, [10]), (0, [11])] (by kernel_rfl) (by kernel_rfl) (off1_of (Fr.refl _ _ w).drew) ?_
  simp only [pieces, pickL, List.map_cons, List.map_nil, List.getD_cons_zero, List.getD_cons_succ]
  refine mix_reads ?_
  have hcb : b ≠ c := fun e => HW.out.nec e.symm
  repeat (go_big_quiet_step (fail))
  refine wpQuiet_nil (mix_acts ?_)
  go_wp2_with (go_at_call 29; refine (cloneA_any D l _ _ (HA.out.ext (ext_drew (ext_refl w))) (by omega) hb).mono ?_; rintro e w1 ⟨v1, rfl, ha, hx⟩; have HA1 := Lib.hid ha; have HX1 := Lib.hid (ext_trans (ext_drew (ext_refl w)) hx); clear ha hx)
  refine mixQ_mk (off1_of (.of_ext HX1.out)) (mix_acts ?_)
  go_wp2_with (go_at_call 31; refine (put_acc_room (HB.out.ext HX1.out) hqn v1).mono ?_; rintro e w2 ⟨rfl, hB2, hF2, hs2⟩; refine Hid.out ?_)
  refine Lib.hid ?_
  have hfd : FD (fun k => k = c) w1 w2 := fd_one hF2
  have hfD : FD D w1 w2 := hfd.wide fun k hk => by rw [hk]; exact HW.out.inD.2
  have HFR := Lib.hid ((Fr.of_ext HX1.out).trans hF2)
  have HR : Hid (RetGive D bm b p c (S.give l) (.int .i64 0) w (.returned (.int .i64 0)) w2) := by
    have h1 := HW.out.ext HX1.out
    obtain ⟨sv', a', fn', pp', hk', hP'⟩ := h1.blk
    refine Lib.hid ⟨rfl, ⟨⟨sv', a', fn', pp', (hfd.block b h1.ltb hcb).trans hk', hP'.fr hfD⟩, ⟨qv ++ [v1], hB2, ((HQ.out.fr (.of_ext HX1.out)).fr hfD).snoc (HA1.out.fr hfD)⟩, ?_, ?_, HW.out.run, HW.out.idle, HW.out.inD⟩, (FD.of_ext HX1.out).trans hfd⟩
    · simp only [WS.give, List.length_append, List.length_cons, List.length_nil]
      omega
    · intro l' hl'
      simp only [WS.give, List.mem_append, List.mem_cons, List.not_mem_nil, or_false] at hl'
      rcases hl' with hl' | rfl
      · exact HW.out.small l' hl'
      · exact hl
  clear hB2 hF2 hs2 hfd hfD
  go_wp2
  refine mixQ_mk (off1_of HFR.out) (mix_reads ?_)
  repeat (go_big_quiet_step (fail))
  refine wpQuiet_nil (mix_end ?_)
  go_wp2
  go_ret
  exact HR.out
set_option maxRecDepth 8000 in
set_option maxHeartbeats 1000000 in
theorem give_full (h : WorkIn D bm b p c S w) (l : List Acc) (v : Value) (hA : AsB (fun _ => False) w v l) (hl : l.length ≤ 900) (hq : S.n ≤ S.q.length) :
    Calls Try.prog 15 #[.pointer (some ⟨b, 0, none⟩), v] w (Ret (.int .i64 8) w) := by
  have HA := Lib.hid hA
  obtain ⟨sv, a, fn, pp, hk, _⟩ := h.blk
  obtain ⟨qv, hB, hQ⟩ := h.box
  unfold wC at hk
  obtain ⟨c0, c1, c2, c3, c4, c5, c6, c7, c8, c9, c10, c11, cz, ll⟩ := twe_of hk
  have HB := Lib.hid hB
  have hqn : S.n ≤ qv.length := by rw [hQ.len]; exact hq
  obtain ⟨a0, cap, rfl, _⟩ := hA
  clear hB hQ hk h
  go_enter Try.func15, Try.ntmps15
  go_wp2
  refine wp_region_mix (fun x => ∃ s, x = over w s) [(0, [0, 1, 2, 3, 4, 5, 6, 7, 8]), (1, [9]), (1, [10]), (0, [11])] (by kernel_rfl) (by kernel_rfl) (over_of (ext_drew (ext_refl w))) ?_
  simp only [pieces, pickL, List.map_cons, List.map_nil, List.getD_cons_zero, List.getD_cons_succ]
  refine mix_reads ?_
  repeat (go_big_quiet_step (fail))
  refine wpQuiet_nil (mix_acts ?_)
  go_wp2_with (go_at_call 29; refine (cloneA_any (fun _ => False) l _ _ (HA.out.ext (ext_drew (ext_refl w))) (by omega) (fun _ h => h.elim)).mono ?_; rintro e w1 ⟨v1, rfl, _, hx⟩; have HX1 := Lib.hid (ext_trans (ext_drew (ext_refl w)) hx); clear hx)
  refine mixQ_mk (over_of HX1.out) (mix_acts ?_)
  go_wp2_with (go_at_call 31; refine (put_acc_full (HB.out.ext HX1.out) hqn v1).mono ?_; rintro e w2 ⟨rfl, rfl⟩)
  refine mixQ_mk (over_of HX1.out) (mix_reads ?_)
  repeat (go_big_quiet_step (fail))
  refine wpQuiet_nil (mix_end ?_)
  go_wp2
  go_ret
  exact Ret.mk HX1.out
end

/-- What Lists comes to: a new worker; lo: the number of the first new block. -/
structure RetLists (bm lo n : Nat) (w : World) (e : Ending) (w' : World) : Prop where
  e : e = .returned (.tuple #[.pointer (some ⟨lo + 2, 0, none⟩), .int .i64 0])
  work : ∀ D : Nat → Prop, D (lo + 2) → D lo → WorkIn D bm (lo + 2) (lo + 1) lo ⟨n, [], false, [], []⟩ w'
  ext : Ext w w'
  size : w'.heap.size = lo + 3
set_option maxRecDepth 8000 in
set_option maxHeartbeats 1000000 in
theorem newW_yes (bm : Nat) (n : Nat) (h1 : 1 ≤ n) (h2 : n ≤ 4096) (w : World) : Calls Try.prog 27 #[.pointer (some ⟨bm, 0, none⟩), .int .i64 (n : Int), .func (.func 28) #[] #[]] w fun e w' => ∃ w1, e = .returned (.tuple #[.pointer (some ⟨w.heap.size + 2, 0, none⟩), .int .i64 0]) ∧ BoxAt (w.heap.size + 1) w.heap.size n [] w1 ∧ Ext w w1 ∧ w1.heap.size = w.heap.size + 2 ∧ w' = w1.alloc (.cells #[.pointer (some ⟨bm, 0, none⟩), .pointer (some ⟨w.heap.size + 1, 0, none⟩), .func (.func 42) #[] #[], .func (.func 28) #[] #[], .bool false, .slice none 0 0, .int .i64 0, .int .i64 0, .int .u64 0, .int .u64 0, .nilFunc, .pointer none] 89) := by
  go_enter Try.func27, Try.ntmps27
  go_wp2_with (go_at_call 41; refine (new_acc_yes n h1 h2).mono ?_; rintro e w1 ⟨rfl, hB, hx, hs⟩; have HB := Lib.hid hB; have HX := Lib.hid hx; have HS := Lib.hid hs; clear hB hx hs)
  rw [HS.out]
  go_ret2
  exact ⟨w1, rfl, HB.out, HX.out, HS.out, rfl⟩
set_option maxRecDepth 8000 in
set_option maxHeartbeats 1000000 in
theorem lists_lo (bm lo : Nat) (x : Int) (n : Nat) (hx : x = n) (h1 : 1 ≤ n) (h2 : n ≤ 4096) (w : World) (hlo : w.heap.size = lo) : Calls Try.prog 12 #[.pointer (some ⟨bm, 0, none⟩), .int .i64 x] w (RetLists bm lo n w) := by
  subst hlo
  subst hx
  go_enter Try.func12, Try.ntmps12
  go_wp2_with (go_at_call 27; refine (newW_yes bm n h1 h2 w).mono ?_; rintro e w2 ⟨w1, rfl, hB, hx, hs, rfl⟩; refine Hid.out ?_)
  refine Lib.hid ?_
  have hk := heap_at w1 (.cells #[.pointer (some ⟨bm, 0, none⟩), .pointer (some ⟨w.heap.size + 1, 0, none⟩), .func (.func 42) #[] #[], .func (.func 28) #[] #[], .bool false, .slice none 0 0, .int .i64 0, .int .i64 0, .int .u64 0, .int .u64 0, .nilFunc, .pointer none] 89) (w.heap.size + 2) hs.symm
  have HB := Lib.hid (hB.ext (ext_alloc (.cells #[.pointer (some ⟨bm, 0, none⟩), .pointer (some ⟨w.heap.size + 1, 0, none⟩), .func (.func 42) #[] #[], .func (.func 28) #[] #[], .bool false, .slice none 0 0, .int .i64 0, .int .i64 0, .int .u64 0, .int .u64 0, .nilFunc, .pointer none] 89) (ext_refl w1)))
  have HX := Lib.hid (ext_alloc (.cells #[.pointer (some ⟨bm, 0, none⟩), .pointer (some ⟨w.heap.size + 1, 0, none⟩), .func (.func 42) #[] #[], .func (.func 28) #[] #[], .bool false, .slice none 0 0, .int .i64 0, .int .i64 0, .int .u64 0, .int .u64 0, .nilFunc, .pointer none] 89) hx)
  have hs2 : (w1.alloc (.cells #[.pointer (some ⟨bm, 0, none⟩), .pointer (some ⟨w.heap.size + 1, 0, none⟩), .func (.func 42) #[] #[], .func (.func 28) #[] #[], .bool false, .slice none 0 0, .int .i64 0, .int .i64 0, .int .u64 0, .int .u64 0, .nilFunc, .pointer none] 89)).heap.size = w.heap.size + 3 := by simp; omega
  generalize w1.alloc _ = W at hk HB HX hs2 ⊢
  have HK := Lib.hid hk
  obtain ⟨c0, c1, c2, c3, c4, c5, c6, c7, c8, c9, c10, c11, cz, ll⟩ := twe_of hk
  have HS := Lib.hid hs2
  clear hk hB hx hs hs2 w1
  go_wp2
  have hk2 := set_same (o := 2) (.func (.func 29) #[] #[]) HK.out
  have hb2 : BoxAt (w.heap.size + 1) w.heap.size n [] (W.setCell ⟨w.heap.size + 2, 2, none⟩ (.func (.func 29) #[] #[])) := by
    obtain ⟨s, r, hcc⟩ := HB.out.chan
    exact HB.out.fr ((Fr.refl (w.heap.size + 2) (w.heap.size + 3) W).set (p := ⟨w.heap.size + 2, 2, none⟩) _ (Nat.le_refl _) (Nat.lt_succ_self _)) (.inl (by omega)) (.inl (by omega))
  go_ret2
  refine ⟨rfl, fun D d1 d2 => ⟨⟨.slice none 0 0, accZ, .nilFunc, none, ?_, ⟨_, _, rfl, UsB.nil _ _⟩⟩, ⟨[], hb2, trivial⟩, by simp, by simp, by simp, fun _ => ⟨rfl, rfl⟩, d1, d2⟩, ext_set _ (by simp) HX.out, by rw [set_size]; exact HS.out⟩
  rw [hk2]
  unfold wC accZ
  rw [U_0]
  simp

set_option maxRecDepth 8000 in
set_option maxHeartbeats 1000000 in
theorem lists_no (bm : Nat) (n : Int) (h : n < 1 ∨ 4096 < n) (w : World) : Calls Try.prog 12 #[.pointer (some ⟨bm, 0, none⟩), .int .i64 n] w fun e w' => e = .returned (.tuple #[.pointer none, .int .i64 1]) ∧ w = w' := by
  have hN : Calls Try.prog 27 #[.pointer (some ⟨bm, 0, none⟩), .int .i64 n, .func (.func 28) #[] #[]] w fun e w' => e = .returned (.tuple #[.pointer none, .int .i64 1]) ∧ w = w' := by
    go_enter Try.func27, Try.ntmps27
    go_wp2_with (go_at_call 41; refine (new_acc_no n h).mono ?_; rintro e w1 ⟨rfl, rfl⟩)
    go_ret2
    exact ⟨rfl, rfl⟩
  have HN := Lib.hid hN
  clear hN
  go_enter Try.func12, Try.ntmps12
  go_wp2_with (go_at_call 27; refine HN.out.mono ?_; rintro e w1 ⟨rfl, rfl⟩)
  go_ret2
  exact ⟨rfl, rfl⟩

end Go.Proofs.Ythepcnffadjeaaa
