/-
  What the call of Pick comes to. Conditions: those of each theorem.
-/
import Derived.Test.YthepcnffadjeaaaThreadPk
namespace Go.Proofs.Ythepcnffadjeaaa
open Go Go.RowKit

section
variable {D : Nat → Prop} {lo hi : Nat} {L : Lay} {b p c : Nat} {S : WS} {M : MS} {w : World}
set_option maxRecDepth 8000 in
set_option maxHeartbeats 4000000 in
theorem pick_any (h : WorkIn D L.bm b p c S w) (hM : MemIn lo hi L M w) (r : Int) (e : BitVec 64) (hap : hi ≤ b ∧ hi ≤ p ∧ hi ≤ c) (hD : ∀ k, lo ≤ k → k < hi → D k) (hb : ∀ k, D k → k < w.heap.size) (x : MS × WS × Nat × List (BitVec 64)) (hx : Hid (pickF r e M S = x)) :
    Calls Try.prog 18 #[.pointer (some ⟨b, 0, none⟩), .agg #[.int .i64 r, .int .u64 (U e)]] w (RetPick D lo hi L b p c x w) := by
  have HW0 := Lib.hid h
  have HP0 : Hid (PkIn D lo hi L b p c (w.heap.size + 1) r e S M w ((w.alloc (.cells #[.int .i64 r, .int .u64 (U e)] 45)).alloc (.cells #[.int .i64 0, .slice none 0 0] 57))) := by
    refine Lib.hid ⟨(h.plus (by omega)).ext (ext_alloc _ (ext_alloc _ (ext_refl w))), hM.ext (ext_alloc _ (ext_alloc _ (ext_refl w))), heap_at _ _ _ (by simp), ⟨w.heap.size, rfl, Nat.le_refl _, ?_⟩, .of_ext (ext_alloc _ (ext_alloc _ (ext_refl w))), by omega, hap, h.inD, hM.top, h.ltb, h.ltp, h.ltc⟩
    rw [Below.heap_alloc _ _ _ (by simp)]
    exact heap_at w _ _ rfl
  have hbx : ∀ k, (D k ∨ k = w.heap.size + 1) → k < w.heap.size + 1 + 1 := fun k hk => by
    rcases hk with hk | rfl
    · have := hb k hk; omega
    · omega
  have hDx : ∀ k, lo ≤ k → k < hi → (D k ∨ k = w.heap.size + 1) := fun k h1 h2 => .inl (hD k h1 h2)
  obtain ⟨sa, n, cp, a, fn, pp, hk, hPH, _⟩ := h.prog
  have HB0 := Lib.hid hk
  unfold wC at hk
  obtain ⟨c0, c1, c2, c3, c4, c5, c6, c7, c8, c9, c10, c11, cz, ll⟩ := twe_of hk
  clear hk hM
  have l1 : b < w.heap.size + 1 := by omega
  have l2 : b < w.heap.size + 1 + 1 := by omega
  cases hbu : S.busy with
  | true =>
    rw [hbu] at c4
    have HX : Hid (goF r e M S = x) := Lib.hid (by rw [← pickF_busy hbu]; exact hx.out)
    have hBU := Lib.hid hbu
    have HP := Lib.hid ((hPH.more (E := fun k => D k ∨ k = w.heap.size + 1) fun k hk => ⟨fun h => h.resolve_right (by omega), .inl⟩).ext (ext_alloc (.cells #[.int .i64 0, .slice none 0 0] 57) (ext_alloc (.cells #[.int .i64 r, .int .u64 (U e)] 45) (ext_refl w))))
    have HB := Lib.hid (((ext_alloc (.cells #[.int .i64 0, .slice none 0 0] 57) (ext_alloc (.cells #[.int .i64 r, .int .u64 (U e)] 45) (ext_refl w))).block b ll).trans HB0.out)
    clear h hPH hx hbu HW0 HB0
    go_enter Try.func18, Try.ntmps18
    go_wp2_with fail
    have hsz : w.heap.size + 1 + 1 ≤ ((w.alloc (.cells #[.int .i64 r, .int .u64 (U e)] 45)).alloc (.cells #[.int .i64 0, .slice none 0 0] 57)).heap.size := by simp
    have HK := HP0
    clear HP0 l1 l2 c0 c1 c2 c3 c4 c5 c6 c7 c8 c9 c10 c11 cz
    generalize hW : World.alloc _ _ = T at HK HP HB hsz ⊢
    replace ll : b < T.heap.size := by omega
    clear hW
    have HSZ0 := Lib.hid hsz
    cases hl : S.l with
    | nil =>
      have hP0 := HP.out
      rw [hl] at hP0
      refine (over_yes _ S.t _ _ hP0 (by have := HK.out.work.run; omega) (fun k hk => by have := hbx k hk; omega)).mono ?_
      rintro en w3 ⟨rv, rfl, hu, hx⟩
      obtain ⟨ra, cp3, rfl, _⟩ := id hu
      have HE : Hid (goF r e M S = (M, S.rest, 2, S.t)) := Lib.hid (goF_nil hl)
      have HK3 := Lib.hid (HK.out.ext hx)
      have HU3 := Lib.hid hu
      clear hu hx hP0 HP HK HB ll
      go_wp2_with fail
      refine (done_any HK3.out.work ra S.t.length cp3).mono ?_
      rintro en Y2 ⟨rfl, hw, hf⟩
      have HU6 := Lib.hid (HU3.out.fr (hf.wide (E := fun k => D k ∨ k = w.heap.size + 1) fun k hk => by rw [hk]; exact HK3.out.work.inD.1))
      have HK6 := Lib.hid (HK3.out.turn hf hw)
      clear hw hf HU3 HK3
      have d0 : Y2.cell? ⟨w.heap.size + 1, 0, none⟩ = some (.int .i64 0) := cell_at HK6.out.evb rfl
      have d1 : Y2.cell? ⟨w.heap.size + 1, 1, none⟩ = some (.slice none 0 0) := cell_at HK6.out.evb rfl
      have dz := fun o => free_at (o := o) HK6.out.evb
      have dl := heap_lt HK6.out.evb
      go_wp2
      exact bodyPost_ret (v := .agg #[.int .i64 2, .slice ra S.t.length cp3]) (by simp [results, Try.results18, go_sem, d0, d1]) rfl (HK6.out.ends x 2 S.t ra cp3 (by rw [← HX.out, HE.out]) HU6.out)
    | cons a1 l1 =>
      have hP0 := HP.out
      rw [hl] at hP0
      refine (over_no _ a1 l1 S.t _ _ hP0).mono ?_
      rintro en w3 ⟨rfl, hx⟩
      have HL := Lib.hid hl
      have HK3 := Lib.hid (HK.out.ext hx)
      have HP3 := Lib.hid (HP.out.ext hx)
      have hk3 := (hx.block b ll).trans HB.out
      obtain ⟨cb, ecb, _, hcb⟩ := HK3.out.cap
      obtain rfl : cb = w.heap.size := by omega
      have HS3 : Hid (w.heap.size + 1 + 1 ≤ w3.heap.size) := Lib.hid (Nat.le_trans HSZ0.out hx.size)
      clear hx hP0 HP HK HB ll hsz HSZ0 ecb
      unfold wC at hk3
      obtain ⟨c0, c1, c2, c3, c4, c5, c6, c7, c8, c9, c10, c11, cz, ll⟩ := twe_of hk3
      have k0 : w3.cell? ⟨w.heap.size, 0, none⟩ = some (.int .i64 r) := cell_at hcb rfl
      have k1 : w3.cell? ⟨w.heap.size, 1, none⟩ = some (.int .u64 (U e)) := cell_at hcb rfl
      have kl := heap_lt hcb
      have htop : hi ≤ w.heap.size := HK3.out.top
      have hapb : hi ≤ b := hap.1
      clear hk3 hcb hl
      go_wp2
      refine wp_region_ways (fun y => ∃ s, y = off lo hi w3 s) (by kernel_rfl) (off_of (.of_ext (ext_drew (ext_refl w3)))) ?_
      refine ways_reads [0, 1, 2, 3, 4, 5, 6, 7, 8] (by kernel_rfl) ?_
      simp only [pickL, List.map_cons, List.map_nil, List.getD_cons_zero, List.getD_cons_succ]
      repeat (go_big_quiet_step (fail))
      refine wpQuiet_nil ?_
      clear c0 c1 c2 c3 c4 c5 c6 c7 c8 c9 c10 c11 cz ll k0 k1 kl
      refine ways_fork 9 (by kernel_rfl) ?_ (ways_act 13 (by kernel_rfl) ?_)
      · simp only [pickL, List.map_cons, List.map_nil, List.getD_cons_zero, List.getD_cons_succ]
        go_wp2_with (go_at_call 36; refine (step_any (fun k => D k ∨ k = w.heap.size + 1) S.l S.t _ r e _ (HP3.out.ext (ext_drew (ext_refl w3))) HK3.out.mem.drew hDx (fun k hk => by have := hbx k hk; have := HS3.out; show k < w3.heap.size; omega)).mono ?_; rintro en w4 ⟨v2, okb, l2, t2, M2, rfl, hp, hm, hf, hsp⟩; obtain ⟨sa2, n2, cp2, a2, fn2, pp2, rfl, hfn2⟩ := hp.shape; have HP2 := Lib.hid hp; have HF2 := Lib.hid ((Fr.of_ext (ext_drew (ext_refl w3))).trans hf); have HK4 := Lib.hid ((HK3.out.step HF2.out hm hD)); have HSP := Lib.hid hsp; have HFN2 := Lib.hid hfn2; clear hp hm hf hsp hfn2)
        refine mixQ_mk (off_of HF2.out) (ways_reads [10, 11, 12] (by kernel_rfl) ?_)
        simp only [pickL, List.map_cons, List.map_nil, List.getD_cons_zero, List.getD_cons_succ]
        repeat (go_big_quiet_step (fail))
        refine wpQuiet_nil (ways_act 13 (by kernel_rfl) ?_)
        simp only [pickL, List.map_cons, List.map_nil, List.getD_cons_zero, List.getD_cons_succ]
        go_wp2
        refine mixQ_mk (off_of (HF2.out.alloc _)) (ways_act 14 (by kernel_rfl) ?_)
        simp only [pickL, List.map_cons, List.map_nil, List.getD_cons_zero, List.getD_cons_succ]
        have hsf := store_fn HFN2.out
        unfold pV at HP2 ⊢
        go_wp2
        refine mixQ_mk (off_of (HF2.out.alloc _)) (ways_reads [15] (by kernel_rfl) ?_)
        simp only [pickL, List.map_cons, List.map_nil, List.getD_cons_zero, List.getD_cons_succ]
        repeat (go_big_quiet_step (fail))
        refine wpQuiet_nil (ways_end (by kernel_rfl) ?_)
        have HQ : Hid (PkQ D lo hi L b p c (w.heap.size + 1) r e S M w w4.heap.size okb l2 t2 M2 sa2 n2 cp2 a2 fn2 pp2 (w4.alloc (.cells #[.slice sa2 n2 cp2, .int .i64 a2.op, .int .i64 a2.at_, .int .u64 (U a2.a), .int .u64 (U a2.b), fn2, .pointer pp2] 87))) :=
          Lib.hid ⟨HK4.out.ext (ext_alloc _ (ext_refl w4)), HP2.out.ext (ext_alloc _ (ext_refl w4)), HFN2.out, heap_at _ _ _ rfl, HSP.out⟩
        have HSZ : Hid (w.heap.size + 1 + 1 ≤ (w4.alloc (.cells #[.slice sa2 n2 cp2, .int .i64 a2.op, .int .i64 a2.at_, .int .u64 (U a2.a), .int .u64 (U a2.b), fn2, .pointer pp2] 87)).heap.size) := Lib.hid (by have := HS3.out; have := HF2.out.size; simp; omega)
        generalize w4.heap.size = bq at HQ ⊢
        generalize hT : w4.alloc _ = T2 at HQ HSZ ⊢
        clear hT HK4 HP2 HF2 HSP HFN2 hsf HK3 HP3 HS3
        obtain ⟨g0, g1, g2, g3, g4, g5, g6, gz, gl⟩ := sev_of HQ.out.box
        have hsf := store_fn HQ.out.fnh
        cases okb with
        | false =>
          have HE : Hid (M2 = M ∧ goF r e M S = (M, S.rest, 3, [])) := by
            rcases HQ.out.sp with ⟨h, _⟩ | ⟨_, _, _, h3, h4⟩
            · cases h
            · refine Lib.hid ⟨h3, goF_no HL.out fun hd => ?_⟩
              have h5 := h4 1
              rw [HL.out, runF, if_pos hd] at h5
              simp at h5
          go_wp2_with fail
          refine (rest_any HQ.out.pk.work).mono ?_
          rintro en Y ⟨rfl, hw, hf⟩
          have HK5 := Lib.hid (HQ.out.pk.turn hf hw)
          clear hw hf g0 g1 g2 g3 g4 g5 g6 gz gl hsf HQ
          have d0 : Y.cell? ⟨w.heap.size + 1, 0, none⟩ = some (.int .i64 0) := cell_at HK5.out.evb rfl
          have d1 : Y.cell? ⟨w.heap.size + 1, 1, none⟩ = some (.slice none 0 0) := cell_at HK5.out.evb rfl
          have dz := fun o => free_at (o := o) HK5.out.evb
          have dl := heap_lt HK5.out.evb
          go_wp2
          exact bodyPost_ret (v := .agg #[.int .i64 3, .slice none 0 0]) (by simp [results, Try.results18, go_sem, d0, d1]) rfl (HK5.out.ends x 3 [] none 0 (by rw [← HX.out, HE.out.2, HE.out.1]) (UsB.nil _ _))
        | true =>
          obtain ⟨a3, h1, hd, h3, h4⟩ : ∃ a3, S.l = a3 :: l2 ∧ DoOk M r e a3.op a3.at_ ∧ M2 = M.done r a3.op a3.at_ a3.a a3.b ∧ t2 = S.t ++ [M.wd r.toNat a3.at_.toNat] := by
            rcases HQ.out.sp with ⟨_, h⟩ | ⟨h, _⟩
            · exact h
            · cases h
          have HRUN : Hid (t2.length + l2.length ≤ 900) := by
            have h5 := HQ.out.pk.work.run
            rw [h1] at h5
            rw [h4]
            refine Lib.hid ?_
            simp at h5 ⊢
            omega
          have HDO := Lib.hid hd
          have H1 := Lib.hid h1
          have H3 := Lib.hid h3
          have H4 := Lib.hid h4
          clear h1 hd h3 h4 HL
          cases l2 with
          | nil =>
            have HE : Hid (goF r e M S = (M2, S.rest, 2, t2)) := Lib.hid (by rw [goF_last H1.out HDO.out, H3.out, H4.out])
            clear H1 H3 H4 HDO
            go_wp2_with fail
            refine (over_yes _ t2 _ _ HQ.out.p (by have := HRUN.out; omega) (fun k hk => by have := hbx k hk; have := HSZ.out; omega)).mono ?_
            rintro en Y ⟨rv, rfl, hu, hx⟩
            obtain ⟨ra, cp3, rfl, _⟩ := id hu
            have HK5 := Lib.hid (HQ.out.pk.ext hx)
            have HU5 := Lib.hid hu
            clear hu hx g0 g1 g2 g3 g4 g5 g6 gz gl hsf HQ
            go_wp2_with fail
            refine (done_any HK5.out.work ra t2.length cp3).mono ?_
            rintro en Y2 ⟨rfl, hw, hf⟩
            have HU6 := Lib.hid (HU5.out.fr (hf.wide (E := fun k => D k ∨ k = w.heap.size + 1) fun k hk => by rw [hk]; exact HK5.out.work.inD.1))
            have HK6 := Lib.hid (HK5.out.turn hf hw)
            clear hw hf HU5 HK5
            have d0 : Y2.cell? ⟨w.heap.size + 1, 0, none⟩ = some (.int .i64 0) := cell_at HK6.out.evb rfl
            have d1 : Y2.cell? ⟨w.heap.size + 1, 1, none⟩ = some (.slice none 0 0) := cell_at HK6.out.evb rfl
            have dz := fun o => free_at (o := o) HK6.out.evb
            have dl := heap_lt HK6.out.evb
            go_wp2
            exact bodyPost_ret (v := .agg #[.int .i64 2, .slice ra t2.length cp3]) (by simp [results, Try.results18, go_sem, d0, d1]) rfl (HK6.out.ends x 2 t2 ra cp3 (by rw [← HX.out, HE.out]) HU6.out)
          | cons a4 l4 =>
            have HE : Hid (goF r e M S = (M2, { S with l := a4 :: l4, t := t2 }, 1, [])) := Lib.hid (by rw [goF_step H1.out HDO.out, H3.out, H4.out])
            clear H1 H3 H4 HDO
            go_wp2_with fail
            refine (over_no _ a4 l4 t2 _ _ HQ.out.p).mono ?_
            rintro en Y ⟨rfl, hx⟩
            have HK5 := Lib.hid (HQ.out.pk.ext hx)
            have HP5 := Lib.hid (HQ.out.p.ext hx)
            replace g0 := ext_cell hx g0
            replace g1 := ext_cell hx g1
            replace g2 := ext_cell hx g2
            replace g3 := ext_cell hx g3
            replace g4 := ext_cell hx g4
            replace g5 := ext_cell hx g5
            replace g6 := ext_cell hx g6
            replace gl := Nat.lt_of_lt_of_le gl hx.size
            obtain ⟨s7, n7, c7', a7, f7, p7, hk7, _⟩ := HK5.out.work.prog
            have HB7 := Lib.hid hk7
            unfold wC at hk7
            obtain ⟨c0, c1, c2, c3, c4, c5, c6, c7, c8, c9, c10, c11, cz, ll⟩ := twe_of hk7
            have hpf := fd_one (putP_fr (b := b) (w := Y) (.slice sa2 n2 cp2) (.int .i64 a2.op) (.int .i64 a2.at_) (.int .u64 (U a2.a)) (.int .u64 (U a2.b)) fn2 (.pointer pp2))
            have HK6 : Hid (PkIn D lo hi L b p c (w.heap.size + 1) r e { S with l := a4 :: l4, t := t2 } M2 w (putP b (.slice sa2 n2 cp2) (.int .i64 a2.op) (.int .i64 a2.at_) (.int .u64 (U a2.a)) (.int .u64 (U a2.b)) fn2 (.pointer pp2) Y)) := by
              refine Lib.hid (HK5.out.turn hpf (HK5.out.work.lay hpf (S' := { S with l := a4 :: l4, t := t2 }) ?_ (HP5.out.fr (hpf.wide fun k hk => by rw [hk]; exact HK5.out.work.inD.1)) rfl rfl HRUN.out (fun h => by have := hBU.out; simp at h; rw [h] at this; cases this)))
              have h8 := HB7.out
              unfold wC at h8 ⊢
              exact putP_block _ _ _ _ _ _ _ h8
            have DE : Hid ((putP b (.slice sa2 n2 cp2) (.int .i64 a2.op) (.int .i64 a2.at_) (.int .u64 (U a2.a)) (.int .u64 (U a2.b)) fn2 (.pointer pp2) Y).heap[w.heap.size + 1]? = some (.cells #[.int .i64 0, .slice none 0 0] 57)) := Lib.hid HK6.out.evb
            have d0 : Y.cell? ⟨w.heap.size + 1, 0, none⟩ = some (.int .i64 0) := cell_at HK5.out.evb rfl
            have d1 : Y.cell? ⟨w.heap.size + 1, 1, none⟩ = some (.slice none 0 0) := cell_at HK5.out.evb rfl
            have dz := fun o => free_at (o := o) HK5.out.evb
            have dl := heap_lt HK5.out.evb
            have hne : b ≠ w.heap.size + 1 := by have := HK5.out.own; omega
            have hne2 : w.heap.size + 1 ≠ b := fun h => hne h.symm
            clear hx hk7 hpf HQ HB7 HP5
            have HEND := Lib.hid (HK6.out.ends x 1 [] none 0 (by rw [← HX.out, HE.out]) (UsB.nil _ _))
            unfold putP at HEND DE
            go_wp2
            have e0 := cell_at (o := 0) DE.out rfl
            have e1 := cell_at (o := 1) DE.out rfl
            exact bodyPost_ret (v := .agg #[.int .i64 1, .slice none 0 0]) (by simp [results, Try.results18, go_sem, e0, e1]) rfl HEND.out
      · simp only [pickL, List.map_cons, List.map_nil, List.getD_cons_zero, List.getD_cons_succ]
        go_wp2
        obtain ⟨V, hV⟩ : ∃ V, V = w3.drew.alloc (.cells #[.slice none 0 0, .int .i64 0, .int .i64 0, .int .u64 0, .int .u64 0, .nilFunc, .pointer none] 87) := ⟨_, rfl⟩
        obtain ⟨bq, hbq⟩ : ∃ bq, bq = w3.heap.size := ⟨_, rfl⟩
        first | rw [← hV, ← hbq] | (rw [show (w3.alloc (.cells #[.slice none 0 0, .int .i64 0, .int .i64 0, .int .u64 0, .int .u64 0, .nilFunc, .pointer none] 87)).drew = w3.drew.alloc (.cells #[.slice none 0 0, .int .i64 0, .int .i64 0, .int .u64 0, .int .u64 0, .nilFunc, .pointer none] 87) from rfl, ← hV, ← hbq])
        have HEV : Hid (Ext w3 V) := Lib.hid (by rw [hV]; exact ext_alloc _ (ext_drew (ext_refl w3)))
        have HBQ : Hid (V.heap[bq]? = some (.cells #[.slice none 0 0, .int .i64 0, .int .i64 0, .int .u64 0, .int .u64 0, .nilFunc, .pointer none] 87)) := Lib.hid (by rw [hV]; exact heap_at _ _ _ hbq)
        have HBq : Hid (w3.heap.size ≤ bq) := Lib.hid (by rw [hbq]; exact Nat.le_refl _)
        clear hV hbq
        refine mixQ_mk (off_of (.of_ext HEV.out)) (ways_act 9 (by kernel_rfl) ?_)
        simp only [pickL, List.map_cons, List.map_nil, List.getD_cons_zero, List.getD_cons_succ]
        have lbq := heap_lt HBQ.out
        have hbq2 : w.heap.size + 1 + 1 ≤ bq := Nat.le_trans HS3.out HBq.out
        have HP4 : Hid (PH (fun k => (D k ∨ k = w.heap.size + 1) ∨ k = bq) S.l S.t _ w3) := Lib.hid (HP3.out.more fun k hk => ⟨fun h => h.resolve_right (by have := HBq.out; omega), .inl⟩)
        go_wp2_with (go_at_call 36; refine (step_any (fun k => (D k ∨ k = w.heap.size + 1) ∨ k = bq) S.l S.t _ r e _ (HP4.out.ext HEV.out) (HK3.out.mem.ext HEV.out) (fun k h1 h2 => .inl (hDx k h1 h2)) (fun k hk => by rcases hk with hk | rfl; (have := hbx k hk; omega); exact lbq)).mono ?_; rintro en w4 ⟨v2, okb, l2, t2, M2, rfl, hp, hm, hf, hsp⟩; obtain ⟨sa2, n2, cp2, a2, fn2, pp2, rfl, hfn2⟩ := hp.shape; have HP2 := Lib.hid hp; have HF2 := Lib.hid ((Fr.of_ext HEV.out).trans hf); have HBQ2 := Lib.hid ((hf.block bq lbq (.inr (by omega))).trans HBQ.out); have HM4 := Lib.hid hm; have HSP := Lib.hid hsp; have HFN2 := Lib.hid hfn2; clear hp hm hf hsp hfn2)
        refine mixQ_mk (off_of HF2.out) (ways_reads [10, 11, 12] (by kernel_rfl) ?_)
        simp only [pickL, List.map_cons, List.map_nil, List.getD_cons_zero, List.getD_cons_succ]
        repeat (go_big_quiet_step (fail))
        refine wpQuiet_nil (ways_act 14 (by kernel_rfl) ?_)
        simp only [pickL, List.map_cons, List.map_nil, List.getD_cons_zero, List.getD_cons_succ]
        have hsf := store_fn HFN2.out
        obtain ⟨d0, d1, d2, d3, d4, d5, d6, dz, dl⟩ := sev_of HBQ2.out
        have HQ : Hid (PkQ D lo hi L b p c (w.heap.size + 1) r e S M w bq okb l2 t2 M2 sa2 n2 cp2 a2 fn2 pp2 (put7 bq (.slice sa2 n2 cp2) (.int .i64 a2.op) (.int .i64 a2.at_) (.int .u64 (U a2.a)) (.int .u64 (U a2.b)) fn2 (.pointer pp2) w4)) :=
          Lib.hid ⟨HK3.out.late HBq.out HF2.out HM4.out hD hbq2 _ _ _ _ _ _ _, PH.mono (fun _ hk => .inl hk) (HP2.out.fr (put7_fd _ _ _ _ _ _ _ (.inr rfl))), HFN2.out, put7_block _ _ _ _ _ _ _ HBQ2.out, HSP.out⟩
        have HSZ : Hid (w.heap.size + 1 + 1 ≤ (put7 bq (.slice sa2 n2 cp2) (.int .i64 a2.op) (.int .i64 a2.at_) (.int .u64 (U a2.a)) (.int .u64 (U a2.b)) fn2 (.pointer pp2) w4).heap.size) := Lib.hid (by rw [put7_size]; have := HS3.out; have := HF2.out.size; omega)
        have HFZ := Lib.hid (put7_frNew (b := bq) (.slice sa2 n2 cp2) (.int .i64 a2.op) (.int .i64 a2.at_) (.int .u64 (U a2.a)) (.int .u64 (U a2.b)) fn2 (.pointer pp2) HF2.out HBq.out)
        unfold put7 at HQ HFZ HSZ
        unfold pV at HP2 ⊢
        go_wp2
        refine mixQ_mk (off_of HFZ.out) (ways_reads [15] (by kernel_rfl) ?_)
        simp only [pickL, List.map_cons, List.map_nil, List.getD_cons_zero, List.getD_cons_succ]
        repeat (go_big_quiet_step (fail))
        refine wpQuiet_nil (ways_end (by kernel_rfl) ?_)
        clear d0 d1 d2 d3 d4 d5 d6 dz dl
        replace HQ := HQ.out
        replace HSZ := HSZ.out
        generalize (World.setCell _ (⟨bq, 6, none⟩ : Addr) _) = T2 at HQ HSZ ⊢
        replace HQ := Lib.hid HQ
        replace HSZ := Lib.hid HSZ
        clear HFZ HM4 HP2 HP4 HF2 HSP HFN2 hsf HK3 HP3 HS3 HBQ2 HBQ HEV
        obtain ⟨g0, g1, g2, g3, g4, g5, g6, gz, gl⟩ := sev_of HQ.out.box
        have hsf := store_fn HQ.out.fnh
        cases okb with
        | false =>
          have HE : Hid (M2 = M ∧ goF r e M S = (M, S.rest, 3, [])) := by
            rcases HQ.out.sp with ⟨h, _⟩ | ⟨_, _, _, h3, h4⟩
            · cases h
            · refine Lib.hid ⟨h3, goF_no HL.out fun hd => ?_⟩
              have h5 := h4 1
              rw [HL.out, runF, if_pos hd] at h5
              simp at h5
          go_wp2_with fail
          refine (rest_any HQ.out.pk.work).mono ?_
          rintro en Y ⟨rfl, hw, hf⟩
          have HK5 := Lib.hid (HQ.out.pk.turn hf hw)
          clear hw hf g0 g1 g2 g3 g4 g5 g6 gz gl hsf HQ
          have d0 : Y.cell? ⟨w.heap.size + 1, 0, none⟩ = some (.int .i64 0) := cell_at HK5.out.evb rfl
          have d1 : Y.cell? ⟨w.heap.size + 1, 1, none⟩ = some (.slice none 0 0) := cell_at HK5.out.evb rfl
          have dz := fun o => free_at (o := o) HK5.out.evb
          have dl := heap_lt HK5.out.evb
          go_wp2
          exact bodyPost_ret (v := .agg #[.int .i64 3, .slice none 0 0]) (by simp [results, Try.results18, go_sem, d0, d1]) rfl (HK5.out.ends x 3 [] none 0 (by rw [← HX.out, HE.out.2, HE.out.1]) (UsB.nil _ _))
        | true =>
          obtain ⟨a3, h1, hd, h3, h4⟩ : ∃ a3, S.l = a3 :: l2 ∧ DoOk M r e a3.op a3.at_ ∧ M2 = M.done r a3.op a3.at_ a3.a a3.b ∧ t2 = S.t ++ [M.wd r.toNat a3.at_.toNat] := by
            rcases HQ.out.sp with ⟨_, h⟩ | ⟨h, _⟩
            · exact h
            · cases h
          have HRUN : Hid (t2.length + l2.length ≤ 900) := by
            have h5 := HQ.out.pk.work.run
            rw [h1] at h5
            rw [h4]
            refine Lib.hid ?_
            simp at h5 ⊢
            omega
          have HDO := Lib.hid hd
          have H1 := Lib.hid h1
          have H3 := Lib.hid h3
          have H4 := Lib.hid h4
          clear h1 hd h3 h4 HL
          cases l2 with
          | nil =>
            have HE : Hid (goF r e M S = (M2, S.rest, 2, t2)) := Lib.hid (by rw [goF_last H1.out HDO.out, H3.out, H4.out])
            clear H1 H3 H4 HDO
            go_wp2_with fail
            refine (over_yes _ t2 _ _ HQ.out.p (by have := HRUN.out; omega) (fun k hk => by have := hbx k hk; have := HSZ.out; omega)).mono ?_
            rintro en Y ⟨rv, rfl, hu, hx⟩
            obtain ⟨ra, cp3, rfl, _⟩ := id hu
            have HK5 := Lib.hid (HQ.out.pk.ext hx)
            have HU5 := Lib.hid hu
            clear hu hx g0 g1 g2 g3 g4 g5 g6 gz gl hsf HQ
            go_wp2_with fail
            refine (done_any HK5.out.work ra t2.length cp3).mono ?_
            rintro en Y2 ⟨rfl, hw, hf⟩
            have HU6 := Lib.hid (HU5.out.fr (hf.wide (E := fun k => D k ∨ k = w.heap.size + 1) fun k hk => by rw [hk]; exact HK5.out.work.inD.1))
            have HK6 := Lib.hid (HK5.out.turn hf hw)
            clear hw hf HU5 HK5
            have d0 : Y2.cell? ⟨w.heap.size + 1, 0, none⟩ = some (.int .i64 0) := cell_at HK6.out.evb rfl
            have d1 : Y2.cell? ⟨w.heap.size + 1, 1, none⟩ = some (.slice none 0 0) := cell_at HK6.out.evb rfl
            have dz := fun o => free_at (o := o) HK6.out.evb
            have dl := heap_lt HK6.out.evb
            go_wp2
            exact bodyPost_ret (v := .agg #[.int .i64 2, .slice ra t2.length cp3]) (by simp [results, Try.results18, go_sem, d0, d1]) rfl (HK6.out.ends x 2 t2 ra cp3 (by rw [← HX.out, HE.out]) HU6.out)
          | cons a4 l4 =>
            have HE : Hid (goF r e M S = (M2, { S with l := a4 :: l4, t := t2 }, 1, [])) := Lib.hid (by rw [goF_step H1.out HDO.out, H3.out, H4.out])
            clear H1 H3 H4 HDO
            go_wp2_with fail
            refine (over_no _ a4 l4 t2 _ _ HQ.out.p).mono ?_
            rintro en Y ⟨rfl, hx⟩
            have HK5 := Lib.hid (HQ.out.pk.ext hx)
            have HP5 := Lib.hid (HQ.out.p.ext hx)
            replace g0 := ext_cell hx g0
            replace g1 := ext_cell hx g1
            replace g2 := ext_cell hx g2
            replace g3 := ext_cell hx g3
            replace g4 := ext_cell hx g4
            replace g5 := ext_cell hx g5
            replace g6 := ext_cell hx g6
            replace gl := Nat.lt_of_lt_of_le gl hx.size
            obtain ⟨s7, n7, c7', a7, f7, p7, hk7, _⟩ := HK5.out.work.prog
            have HB7 := Lib.hid hk7
            unfold wC at hk7
            obtain ⟨c0, c1, c2, c3, c4, c5, c6, c7, c8, c9, c10, c11, cz, ll⟩ := twe_of hk7
            have hpf := fd_one (putP_fr (b := b) (w := Y) (.slice sa2 n2 cp2) (.int .i64 a2.op) (.int .i64 a2.at_) (.int .u64 (U a2.a)) (.int .u64 (U a2.b)) fn2 (.pointer pp2))
            have HK6 : Hid (PkIn D lo hi L b p c (w.heap.size + 1) r e { S with l := a4 :: l4, t := t2 } M2 w (putP b (.slice sa2 n2 cp2) (.int .i64 a2.op) (.int .i64 a2.at_) (.int .u64 (U a2.a)) (.int .u64 (U a2.b)) fn2 (.pointer pp2) Y)) := by
              refine Lib.hid (HK5.out.turn hpf (HK5.out.work.lay hpf (S' := { S with l := a4 :: l4, t := t2 }) ?_ (HP5.out.fr (hpf.wide fun k hk => by rw [hk]; exact HK5.out.work.inD.1)) rfl rfl HRUN.out (fun h => by have := hBU.out; simp at h; rw [h] at this; cases this)))
              have h8 := HB7.out
              unfold wC at h8 ⊢
              exact putP_block _ _ _ _ _ _ _ h8
            have DE : Hid ((putP b (.slice sa2 n2 cp2) (.int .i64 a2.op) (.int .i64 a2.at_) (.int .u64 (U a2.a)) (.int .u64 (U a2.b)) fn2 (.pointer pp2) Y).heap[w.heap.size + 1]? = some (.cells #[.int .i64 0, .slice none 0 0] 57)) := Lib.hid HK6.out.evb
            have d0 : Y.cell? ⟨w.heap.size + 1, 0, none⟩ = some (.int .i64 0) := cell_at HK5.out.evb rfl
            have d1 : Y.cell? ⟨w.heap.size + 1, 1, none⟩ = some (.slice none 0 0) := cell_at HK5.out.evb rfl
            have dz := fun o => free_at (o := o) HK5.out.evb
            have dl := heap_lt HK5.out.evb
            have hne : b ≠ w.heap.size + 1 := by have := HK5.out.own; omega
            have hne2 : w.heap.size + 1 ≠ b := fun h => hne h.symm
            clear hx hk7 hpf HQ HB7 HP5
            have HEND := Lib.hid (HK6.out.ends x 1 [] none 0 (by rw [← HX.out, HE.out]) (UsB.nil _ _))
            unfold putP at HEND DE
            go_wp2
            have e0 := cell_at (o := 0) DE.out rfl
            have e1 := cell_at (o := 1) DE.out rfl
            exact bodyPost_ret (v := .agg #[.int .i64 1, .slice none 0 0]) (by simp [results, Try.results18, go_sem, e0, e1]) rfl HEND.out
  | false =>
    rw [hbu] at c4
    have hQL : S.q.length = S.q.length := rfl
    cases hq : S.q with
    | nil =>
      have HX : Hid ((M, S, 0, []) = x) := Lib.hid (by rw [← pickF_idle (r := r) (e := e) (M := M) hbu hq]; exact hx.out)
      clear h hPH hx hbu HW0 HB0 hQL
      go_enter Try.func18, Try.ntmps18
      go_wp2_with fail
      have HK := HP0
      clear HP0 l1 l2 c0 c1 c2 c3 c4 c5 c6 c7 c8 c9 c10 c11 cz
      generalize hW : World.alloc _ _ = T at HK ⊢
      clear hW
      refine (takeW_none HK.out.work hq).mono ?_
      rintro en Y ⟨rfl, rfl⟩
      have d0 : T.cell? ⟨w.heap.size + 1, 0, none⟩ = some (.int .i64 0) := cell_at HK.out.evb rfl
      have d1 : T.cell? ⟨w.heap.size + 1, 1, none⟩ = some (.slice none 0 0) := cell_at HK.out.evb rfl
      have dz := fun o => free_at (o := o) HK.out.evb
      have dl := heap_lt HK.out.evb
      go_wp2
      exact bodyPost_ret (v := .agg #[.int .i64 0, .slice none 0 0]) (by simp [results, Try.results18, go_sem, d0, d1]) rfl (HK.out.ends x 0 [] none 0 HX.out.symm (UsB.nil _ _))
    | cons l0 q0 =>
      have HX0 : Hid (goF r e M (S.begin l0 q0) = x) := Lib.hid (by rw [← pickF_begin hbu hq]; exact hx.out)
      clear h hPH hx hbu HW0 HB0 hQL
      go_enter Try.func18, Try.ntmps18
      go_wp2_with fail
      have hsz0 : w.heap.size + 1 + 1 ≤ ((w.alloc (.cells #[.int .i64 r, .int .u64 (U e)] 45)).alloc (.cells #[.int .i64 0, .slice none 0 0] 57)).heap.size := by simp
      clear l1 l2 c0 c1 c2 c3 c4 c5 c6 c7 c8 c9 c10 c11 cz ll
      generalize hW : World.alloc _ _ = T0 at HP0 hsz0 ⊢
      clear hW
      refine (takeW_some HP0.out.work l0 q0 hq (fun k hk => by have := hbx k hk; omega)).mono ?_
      rintro en T ⟨rfl, hw, hf⟩
      obtain ⟨S1, hS1⟩ : ∃ S1, S1 = S.begin l0 q0 := ⟨_, rfl⟩
      have hBU : Hid (S1.busy = true) := Lib.hid (by rw [hS1]; rfl)
      rw [← hS1] at hw HX0
      have HK := Lib.hid (HP0.out.turn2 hf hw)
      have hsz : w.heap.size + 1 + 1 ≤ T.heap.size := Nat.le_trans hsz0 hf.size
      have HX := HX0
      clear hS1 HX0 hw hf HP0 hsz0
      obtain ⟨sb, nb, cb', ab, fb, pb, hkb, hPb, _⟩ := HK.out.work.prog
      have HP := Lib.hid hPb
      have HB := Lib.hid hkb
      unfold wC at hkb
      obtain ⟨c0, c1, c2, c3, c4, c5, c6, c7, c8, c9, c10, c11, cz, ll⟩ := twe_of hkb
      have hbu1 := hBU.out
      rw [hbu1] at c4
      clear hkb hPb hbu1
      go_wp2_with fail
      clear c0 c1 c2 c3 c4 c5 c6 c7 c8 c9 c10 c11 cz
      have HSZ0 := Lib.hid hsz
      cases hl : S1.l with
      | nil =>
        have hP0 := HP.out
        rw [hl] at hP0
        refine (over_yes _ S1.t _ _ hP0 (by have := HK.out.work.run; omega) (fun k hk => by have := hbx k hk; omega)).mono ?_
        rintro en w3 ⟨rv, rfl, hu, hx⟩
        obtain ⟨ra, cp3, rfl, _⟩ := id hu
        have HE : Hid (goF r e M S1 = (M, S1.rest, 2, S1.t)) := Lib.hid (goF_nil hl)
        have HK3 := Lib.hid (HK.out.ext hx)
        have HU3 := Lib.hid hu
        clear hu hx hP0 HP HK HB ll
        go_wp2_with fail
        refine (done_any HK3.out.work ra S1.t.length cp3).mono ?_
        rintro en Y2 ⟨rfl, hw, hf⟩
        have HU6 := Lib.hid (HU3.out.fr (hf.wide (E := fun k => D k ∨ k = w.heap.size + 1) fun k hk => by rw [hk]; exact HK3.out.work.inD.1))
        have HK6 := Lib.hid (HK3.out.turn hf hw)
        clear hw hf HU3 HK3
        have d0 : Y2.cell? ⟨w.heap.size + 1, 0, none⟩ = some (.int .i64 0) := cell_at HK6.out.evb rfl
        have d1 : Y2.cell? ⟨w.heap.size + 1, 1, none⟩ = some (.slice none 0 0) := cell_at HK6.out.evb rfl
        have dz := fun o => free_at (o := o) HK6.out.evb
        have dl := heap_lt HK6.out.evb
        go_wp2
        exact bodyPost_ret (v := .agg #[.int .i64 2, .slice ra S1.t.length cp3]) (by simp [results, Try.results18, go_sem, d0, d1]) rfl (HK6.out.ends x 2 S1.t ra cp3 (by rw [← HX.out, HE.out]) HU6.out)
      | cons a1 l1 =>
        have hP0 := HP.out
        rw [hl] at hP0
        refine (over_no _ a1 l1 S1.t _ _ hP0).mono ?_
        rintro en w3 ⟨rfl, hx⟩
        have HL := Lib.hid hl
        have HK3 := Lib.hid (HK.out.ext hx)
        have HP3 := Lib.hid (HP.out.ext hx)
        have hk3 := (hx.block b ll).trans HB.out
        obtain ⟨cb, ecb, _, hcb⟩ := HK3.out.cap
        obtain rfl : cb = w.heap.size := by omega
        have HS3 : Hid (w.heap.size + 1 + 1 ≤ w3.heap.size) := Lib.hid (Nat.le_trans HSZ0.out hx.size)
        clear hx hP0 HP HK HB ll hsz HSZ0 ecb
        unfold wC at hk3
        obtain ⟨c0, c1, c2, c3, c4, c5, c6, c7, c8, c9, c10, c11, cz, ll⟩ := twe_of hk3
        have k0 : w3.cell? ⟨w.heap.size, 0, none⟩ = some (.int .i64 r) := cell_at hcb rfl
        have k1 : w3.cell? ⟨w.heap.size, 1, none⟩ = some (.int .u64 (U e)) := cell_at hcb rfl
        have kl := heap_lt hcb
        have htop : hi ≤ w.heap.size := HK3.out.top
        have hapb : hi ≤ b := hap.1
        clear hk3 hcb hl
        go_wp2
        refine wp_region_ways (fun y => ∃ s, y = off lo hi w3 s) (by kernel_rfl) (off_of (.of_ext (ext_drew (ext_refl w3)))) ?_
        refine ways_reads [0, 1, 2, 3, 4, 5, 6, 7, 8] (by kernel_rfl) ?_
        simp only [pickL, List.map_cons, List.map_nil, List.getD_cons_zero, List.getD_cons_succ]
        repeat (go_big_quiet_step (fail))
        refine wpQuiet_nil ?_
        clear c0 c1 c2 c3 c4 c5 c6 c7 c8 c9 c10 c11 cz ll k0 k1 kl
        refine ways_fork 9 (by kernel_rfl) ?_ (ways_act 13 (by kernel_rfl) ?_)
        · simp only [pickL, List.map_cons, List.map_nil, List.getD_cons_zero, List.getD_cons_succ]
          go_wp2_with (go_at_call 36; refine (step_any (fun k => D k ∨ k = w.heap.size + 1) S1.l S1.t _ r e _ (HP3.out.ext (ext_drew (ext_refl w3))) HK3.out.mem.drew hDx (fun k hk => by have := hbx k hk; have := HS3.out; show k < w3.heap.size; omega)).mono ?_; rintro en w4 ⟨v2, okb, l2, t2, M2, rfl, hp, hm, hf, hsp⟩; obtain ⟨sa2, n2, cp2, a2, fn2, pp2, rfl, hfn2⟩ := hp.shape; have HP2 := Lib.hid hp; have HF2 := Lib.hid ((Fr.of_ext (ext_drew (ext_refl w3))).trans hf); have HK4 := Lib.hid ((HK3.out.step HF2.out hm hD)); have HSP := Lib.hid hsp; have HFN2 := Lib.hid hfn2; clear hp hm hf hsp hfn2)
          refine mixQ_mk (off_of HF2.out) (ways_reads [10, 11, 12] (by kernel_rfl) ?_)
          simp only [pickL, List.map_cons, List.map_nil, List.getD_cons_zero, List.getD_cons_succ]
          repeat (go_big_quiet_step (fail))
          refine wpQuiet_nil (ways_act 13 (by kernel_rfl) ?_)
          simp only [pickL, List.map_cons, List.map_nil, List.getD_cons_zero, List.getD_cons_succ]
          go_wp2
          refine mixQ_mk (off_of (HF2.out.alloc _)) (ways_act 14 (by kernel_rfl) ?_)
          simp only [pickL, List.map_cons, List.map_nil, List.getD_cons_zero, List.getD_cons_succ]
          have hsf := store_fn HFN2.out
          unfold pV at HP2 ⊢
          go_wp2
          refine mixQ_mk (off_of (HF2.out.alloc _)) (ways_reads [15] (by kernel_rfl) ?_)
          simp only [pickL, List.map_cons, List.map_nil, List.getD_cons_zero, List.getD_cons_succ]
          repeat (go_big_quiet_step (fail))
          refine wpQuiet_nil (ways_end (by kernel_rfl) ?_)
          have HQ : Hid (PkQ D lo hi L b p c (w.heap.size + 1) r e S1 M w w4.heap.size okb l2 t2 M2 sa2 n2 cp2 a2 fn2 pp2 (w4.alloc (.cells #[.slice sa2 n2 cp2, .int .i64 a2.op, .int .i64 a2.at_, .int .u64 (U a2.a), .int .u64 (U a2.b), fn2, .pointer pp2] 87))) :=
            Lib.hid ⟨HK4.out.ext (ext_alloc _ (ext_refl w4)), HP2.out.ext (ext_alloc _ (ext_refl w4)), HFN2.out, heap_at _ _ _ rfl, HSP.out⟩
          have HSZ : Hid (w.heap.size + 1 + 1 ≤ (w4.alloc (.cells #[.slice sa2 n2 cp2, .int .i64 a2.op, .int .i64 a2.at_, .int .u64 (U a2.a), .int .u64 (U a2.b), fn2, .pointer pp2] 87)).heap.size) := Lib.hid (by have := HS3.out; have := HF2.out.size; simp; omega)
          generalize w4.heap.size = bq at HQ ⊢
          generalize hT : w4.alloc _ = T2 at HQ HSZ ⊢
          clear hT HK4 HP2 HF2 HSP HFN2 hsf HK3 HP3 HS3
          obtain ⟨g0, g1, g2, g3, g4, g5, g6, gz, gl⟩ := sev_of HQ.out.box
          have hsf := store_fn HQ.out.fnh
          cases okb with
          | false =>
            have HE : Hid (M2 = M ∧ goF r e M S1 = (M, S1.rest, 3, [])) := by
              rcases HQ.out.sp with ⟨h, _⟩ | ⟨_, _, _, h3, h4⟩
              · cases h
              · refine Lib.hid ⟨h3, goF_no HL.out fun hd => ?_⟩
                have h5 := h4 1
                rw [HL.out, runF, if_pos hd] at h5
                simp at h5
            go_wp2_with fail
            refine (rest_any HQ.out.pk.work).mono ?_
            rintro en Y ⟨rfl, hw, hf⟩
            have HK5 := Lib.hid (HQ.out.pk.turn hf hw)
            clear hw hf g0 g1 g2 g3 g4 g5 g6 gz gl hsf HQ
            have d0 : Y.cell? ⟨w.heap.size + 1, 0, none⟩ = some (.int .i64 0) := cell_at HK5.out.evb rfl
            have d1 : Y.cell? ⟨w.heap.size + 1, 1, none⟩ = some (.slice none 0 0) := cell_at HK5.out.evb rfl
            have dz := fun o => free_at (o := o) HK5.out.evb
            have dl := heap_lt HK5.out.evb
            go_wp2
            exact bodyPost_ret (v := .agg #[.int .i64 3, .slice none 0 0]) (by simp [results, Try.results18, go_sem, d0, d1]) rfl (HK5.out.ends x 3 [] none 0 (by rw [← HX.out, HE.out.2, HE.out.1]) (UsB.nil _ _))
          | true =>
            obtain ⟨a3, h1, hd, h3, h4⟩ : ∃ a3, S1.l = a3 :: l2 ∧ DoOk M r e a3.op a3.at_ ∧ M2 = M.done r a3.op a3.at_ a3.a a3.b ∧ t2 = S1.t ++ [M.wd r.toNat a3.at_.toNat] := by
              rcases HQ.out.sp with ⟨_, h⟩ | ⟨h, _⟩
              · exact h
              · cases h
            have HRUN : Hid (t2.length + l2.length ≤ 900) := by
              have h5 := HQ.out.pk.work.run
              rw [h1] at h5
              rw [h4]
              refine Lib.hid ?_
              simp at h5 ⊢
              omega
            have HDO := Lib.hid hd
            have H1 := Lib.hid h1
            have H3 := Lib.hid h3
            have H4 := Lib.hid h4
            clear h1 hd h3 h4 HL
            cases l2 with
            | nil =>
              have HE : Hid (goF r e M S1 = (M2, S1.rest, 2, t2)) := Lib.hid (by rw [goF_last H1.out HDO.out, H3.out, H4.out])
              clear H1 H3 H4 HDO
              go_wp2_with fail
              refine (over_yes _ t2 _ _ HQ.out.p (by have := HRUN.out; omega) (fun k hk => by have := hbx k hk; have := HSZ.out; omega)).mono ?_
              rintro en Y ⟨rv, rfl, hu, hx⟩
              obtain ⟨ra, cp3, rfl, _⟩ := id hu
              have HK5 := Lib.hid (HQ.out.pk.ext hx)
              have HU5 := Lib.hid hu
              clear hu hx g0 g1 g2 g3 g4 g5 g6 gz gl hsf HQ
              go_wp2_with fail
              refine (done_any HK5.out.work ra t2.length cp3).mono ?_
              rintro en Y2 ⟨rfl, hw, hf⟩
              have HU6 := Lib.hid (HU5.out.fr (hf.wide (E := fun k => D k ∨ k = w.heap.size + 1) fun k hk => by rw [hk]; exact HK5.out.work.inD.1))
              have HK6 := Lib.hid (HK5.out.turn hf hw)
              clear hw hf HU5 HK5
              have d0 : Y2.cell? ⟨w.heap.size + 1, 0, none⟩ = some (.int .i64 0) := cell_at HK6.out.evb rfl
              have d1 : Y2.cell? ⟨w.heap.size + 1, 1, none⟩ = some (.slice none 0 0) := cell_at HK6.out.evb rfl
              have dz := fun o => free_at (o := o) HK6.out.evb
              have dl := heap_lt HK6.out.evb
              go_wp2
              exact bodyPost_ret (v := .agg #[.int .i64 2, .slice ra t2.length cp3]) (by simp [results, Try.results18, go_sem, d0, d1]) rfl (HK6.out.ends x 2 t2 ra cp3 (by rw [← HX.out, HE.out]) HU6.out)
            | cons a4 l4 =>
              have HE : Hid (goF r e M S1 = (M2, { S1 with l := a4 :: l4, t := t2 }, 1, [])) := Lib.hid (by rw [goF_step H1.out HDO.out, H3.out, H4.out])
              clear H1 H3 H4 HDO
              go_wp2_with fail
              refine (over_no _ a4 l4 t2 _ _ HQ.out.p).mono ?_
              rintro en Y ⟨rfl, hx⟩
              have HK5 := Lib.hid (HQ.out.pk.ext hx)
              have HP5 := Lib.hid (HQ.out.p.ext hx)
              replace g0 := ext_cell hx g0
              replace g1 := ext_cell hx g1
              replace g2 := ext_cell hx g2
              replace g3 := ext_cell hx g3
              replace g4 := ext_cell hx g4
              replace g5 := ext_cell hx g5
              replace g6 := ext_cell hx g6
              replace gl := Nat.lt_of_lt_of_le gl hx.size
              obtain ⟨s7, n7, c7', a7, f7, p7, hk7, _⟩ := HK5.out.work.prog
              have HB7 := Lib.hid hk7
              unfold wC at hk7
              obtain ⟨c0, c1, c2, c3, c4, c5, c6, c7, c8, c9, c10, c11, cz, ll⟩ := twe_of hk7
              have hpf := fd_one (putP_fr (b := b) (w := Y) (.slice sa2 n2 cp2) (.int .i64 a2.op) (.int .i64 a2.at_) (.int .u64 (U a2.a)) (.int .u64 (U a2.b)) fn2 (.pointer pp2))
              have HK6 : Hid (PkIn D lo hi L b p c (w.heap.size + 1) r e { S1 with l := a4 :: l4, t := t2 } M2 w (putP b (.slice sa2 n2 cp2) (.int .i64 a2.op) (.int .i64 a2.at_) (.int .u64 (U a2.a)) (.int .u64 (U a2.b)) fn2 (.pointer pp2) Y)) := by
                refine Lib.hid (HK5.out.turn hpf (HK5.out.work.lay hpf (S' := { S1 with l := a4 :: l4, t := t2 }) ?_ (HP5.out.fr (hpf.wide fun k hk => by rw [hk]; exact HK5.out.work.inD.1)) rfl rfl HRUN.out (fun h => by have := hBU.out; simp at h; rw [h] at this; cases this)))
                have h8 := HB7.out
                unfold wC at h8 ⊢
                exact putP_block _ _ _ _ _ _ _ h8
              have DE : Hid ((putP b (.slice sa2 n2 cp2) (.int .i64 a2.op) (.int .i64 a2.at_) (.int .u64 (U a2.a)) (.int .u64 (U a2.b)) fn2 (.pointer pp2) Y).heap[w.heap.size + 1]? = some (.cells #[.int .i64 0, .slice none 0 0] 57)) := Lib.hid HK6.out.evb
              have d0 : Y.cell? ⟨w.heap.size + 1, 0, none⟩ = some (.int .i64 0) := cell_at HK5.out.evb rfl
              have d1 : Y.cell? ⟨w.heap.size + 1, 1, none⟩ = some (.slice none 0 0) := cell_at HK5.out.evb rfl
              have dz := fun o => free_at (o := o) HK5.out.evb
              have dl := heap_lt HK5.out.evb
              have hne : b ≠ w.heap.size + 1 := by have := HK5.out.own; omega
              have hne2 : w.heap.size + 1 ≠ b := fun h => hne h.symm
              clear hx hk7 hpf HQ HB7 HP5
              have HEND := Lib.hid (HK6.out.ends x 1 [] none 0 (by rw [← HX.out, HE.out]) (UsB.nil _ _))
              unfold putP at HEND DE
              go_wp2
              have e0 := cell_at (o := 0) DE.out rfl
              have e1 := cell_at (o := 1) DE.out rfl
              exact bodyPost_ret (v := .agg #[.int .i64 1, .slice none 0 0]) (by simp [results, Try.results18, go_sem, e0, e1]) rfl HEND.out
        · simp only [pickL, List.map_cons, List.map_nil, List.getD_cons_zero, List.getD_cons_succ]
          go_wp2
          obtain ⟨V, hV⟩ : ∃ V, V = w3.drew.alloc (.cells #[.slice none 0 0, .int .i64 0, .int .i64 0, .int .u64 0, .int .u64 0, .nilFunc, .pointer none] 87) := ⟨_, rfl⟩
          obtain ⟨bq, hbq⟩ : ∃ bq, bq = w3.heap.size := ⟨_, rfl⟩
          first | rw [← hV, ← hbq] | (rw [show (w3.alloc (.cells #[.slice none 0 0, .int .i64 0, .int .i64 0, .int .u64 0, .int .u64 0, .nilFunc, .pointer none] 87)).drew = w3.drew.alloc (.cells #[.slice none 0 0, .int .i64 0, .int .i64 0, .int .u64 0, .int .u64 0, .nilFunc, .pointer none] 87) from rfl, ← hV, ← hbq])
          have HEV : Hid (Ext w3 V) := Lib.hid (by rw [hV]; exact ext_alloc _ (ext_drew (ext_refl w3)))
          have HBQ : Hid (V.heap[bq]? = some (.cells #[.slice none 0 0, .int .i64 0, .int .i64 0, .int .u64 0, .int .u64 0, .nilFunc, .pointer none] 87)) := Lib.hid (by rw [hV]; exact heap_at _ _ _ hbq)
          have HBq : Hid (w3.heap.size ≤ bq) := Lib.hid (by rw [hbq]; exact Nat.le_refl _)
          clear hV hbq
          refine mixQ_mk (off_of (.of_ext HEV.out)) (ways_act 9 (by kernel_rfl) ?_)
          simp only [pickL, List.map_cons, List.map_nil, List.getD_cons_zero, List.getD_cons_succ]
          have lbq := heap_lt HBQ.out
          have hbq2 : w.heap.size + 1 + 1 ≤ bq := Nat.le_trans HS3.out HBq.out
          have HP4 : Hid (PH (fun k => (D k ∨ k = w.heap.size + 1) ∨ k = bq) S1.l S1.t _ w3) := Lib.hid (HP3.out.more fun k hk => ⟨fun h => h.resolve_right (by have := HBq.out; omega), .inl⟩)
          go_wp2_with (go_at_call 36; refine (step_any (fun k => (D k ∨ k = w.heap.size + 1) ∨ k = bq) S1.l S1.t _ r e _ (HP4.out.ext HEV.out) (HK3.out.mem.ext HEV.out) (fun k h1 h2 => .inl (hDx k h1 h2)) (fun k hk => by rcases hk with hk | rfl; (have := hbx k hk; omega); exact lbq)).mono ?_; rintro en w4 ⟨v2, okb, l2, t2, M2, rfl, hp, hm, hf, hsp⟩; obtain ⟨sa2, n2, cp2, a2, fn2, pp2, rfl, hfn2⟩ := hp.shape; have HP2 := Lib.hid hp; have HF2 := Lib.hid ((Fr.of_ext HEV.out).trans hf); have HBQ2 := Lib.hid ((hf.block bq lbq (.inr (by omega))).trans HBQ.out); have HM4 := Lib.hid hm; have HSP := Lib.hid hsp; have HFN2 := Lib.hid hfn2; clear hp hm hf hsp hfn2)
          refine mixQ_mk (off_of HF2.out) (ways_reads [10, 11, 12] (by kernel_rfl) ?_)
          simp only [pickL, List.map_cons, List.map_nil, List.getD_cons_zero, List.getD_cons_succ]
          repeat (go_big_quiet_step (fail))
          refine wpQuiet_nil (ways_act 14 (by kernel_rfl) ?_)
          simp only [pickL, List.map_cons, List.map_nil, List.getD_cons_zero, List.getD_cons_succ]
          have hsf := store_fn HFN2.out
          obtain ⟨d0, d1, d2, d3, d4, d5, d6, dz, dl⟩ := sev_of HBQ2.out
          have HQ : Hid (PkQ D lo hi L b p c (w.heap.size + 1) r e S1 M w bq okb l2 t2 M2 sa2 n2 cp2 a2 fn2 pp2 (put7 bq (.slice sa2 n2 cp2) (.int .i64 a2.op) (.int .i64 a2.at_) (.int .u64 (U a2.a)) (.int .u64 (U a2.b)) fn2 (.pointer pp2) w4)) :=
            Lib.hid ⟨HK3.out.late HBq.out HF2.out HM4.out hD hbq2 _ _ _ _ _ _ _, PH.mono (fun _ hk => .inl hk) (HP2.out.fr (put7_fd _ _ _ _ _ _ _ (.inr rfl))), HFN2.out, put7_block _ _ _ _ _ _ _ HBQ2.out, HSP.out⟩
          have HSZ : Hid (w.heap.size + 1 + 1 ≤ (put7 bq (.slice sa2 n2 cp2) (.int .i64 a2.op) (.int .i64 a2.at_) (.int .u64 (U a2.a)) (.int .u64 (U a2.b)) fn2 (.pointer pp2) w4).heap.size) := Lib.hid (by rw [put7_size]; have := HS3.out; have := HF2.out.size; omega)
          have HFZ := Lib.hid (put7_frNew (b := bq) (.slice sa2 n2 cp2) (.int .i64 a2.op) (.int .i64 a2.at_) (.int .u64 (U a2.a)) (.int .u64 (U a2.b)) fn2 (.pointer pp2) HF2.out HBq.out)
          unfold put7 at HQ HFZ HSZ
          unfold pV at HP2 ⊢
          go_wp2
          refine mixQ_mk (off_of HFZ.out) (ways_reads [15] (by kernel_rfl) ?_)
          simp only [pickL, List.map_cons, List.map_nil, List.getD_cons_zero, List.getD_cons_succ]
          repeat (go_big_quiet_step (fail))
          refine wpQuiet_nil (ways_end (by kernel_rfl) ?_)
          clear d0 d1 d2 d3 d4 d5 d6 dz dl
          replace HQ := HQ.out
          replace HSZ := HSZ.out
          generalize (World.setCell _ (⟨bq, 6, none⟩ : Addr) _) = T2 at HQ HSZ ⊢
          replace HQ := Lib.hid HQ
          replace HSZ := Lib.hid HSZ
          clear HFZ HM4 HP2 HP4 HF2 HSP HFN2 hsf HK3 HP3 HS3 HBQ2 HBQ HEV
          obtain ⟨g0, g1, g2, g3, g4, g5, g6, gz, gl⟩ := sev_of HQ.out.box
          have hsf := store_fn HQ.out.fnh
          cases okb with
          | false =>
            have HE : Hid (M2 = M ∧ goF r e M S1 = (M, S1.rest, 3, [])) := by
              rcases HQ.out.sp with ⟨h, _⟩ | ⟨_, _, _, h3, h4⟩
              · cases h
              · refine Lib.hid ⟨h3, goF_no HL.out fun hd => ?_⟩
                have h5 := h4 1
                rw [HL.out, runF, if_pos hd] at h5
                simp at h5
            go_wp2_with fail
            refine (rest_any HQ.out.pk.work).mono ?_
            rintro en Y ⟨rfl, hw, hf⟩
            have HK5 := Lib.hid (HQ.out.pk.turn hf hw)
            clear hw hf g0 g1 g2 g3 g4 g5 g6 gz gl hsf HQ
            have d0 : Y.cell? ⟨w.heap.size + 1, 0, none⟩ = some (.int .i64 0) := cell_at HK5.out.evb rfl
            have d1 : Y.cell? ⟨w.heap.size + 1, 1, none⟩ = some (.slice none 0 0) := cell_at HK5.out.evb rfl
            have dz := fun o => free_at (o := o) HK5.out.evb
            have dl := heap_lt HK5.out.evb
            go_wp2
            exact bodyPost_ret (v := .agg #[.int .i64 3, .slice none 0 0]) (by simp [results, Try.results18, go_sem, d0, d1]) rfl (HK5.out.ends x 3 [] none 0 (by rw [← HX.out, HE.out.2, HE.out.1]) (UsB.nil _ _))
          | true =>
            obtain ⟨a3, h1, hd, h3, h4⟩ : ∃ a3, S1.l = a3 :: l2 ∧ DoOk M r e a3.op a3.at_ ∧ M2 = M.done r a3.op a3.at_ a3.a a3.b ∧ t2 = S1.t ++ [M.wd r.toNat a3.at_.toNat] := by
              rcases HQ.out.sp with ⟨_, h⟩ | ⟨h, _⟩
              · exact h
              · cases h
            have HRUN : Hid (t2.length + l2.length ≤ 900) := by
              have h5 := HQ.out.pk.work.run
              rw [h1] at h5
              rw [h4]
              refine Lib.hid ?_
              simp at h5 ⊢
              omega
            have HDO := Lib.hid hd
            have H1 := Lib.hid h1
            have H3 := Lib.hid h3
            have H4 := Lib.hid h4
            clear h1 hd h3 h4 HL
            cases l2 with
            | nil =>
              have HE : Hid (goF r e M S1 = (M2, S1.rest, 2, t2)) := Lib.hid (by rw [goF_last H1.out HDO.out, H3.out, H4.out])
              clear H1 H3 H4 HDO
              go_wp2_with fail
              refine (over_yes _ t2 _ _ HQ.out.p (by have := HRUN.out; omega) (fun k hk => by have := hbx k hk; have := HSZ.out; omega)).mono ?_
              rintro en Y ⟨rv, rfl, hu, hx⟩
              obtain ⟨ra, cp3, rfl, _⟩ := id hu
              have HK5 := Lib.hid (HQ.out.pk.ext hx)
              have HU5 := Lib.hid hu
              clear hu hx g0 g1 g2 g3 g4 g5 g6 gz gl hsf HQ
              go_wp2_with fail
              refine (done_any HK5.out.work ra t2.length cp3).mono ?_
              rintro en Y2 ⟨rfl, hw, hf⟩
              have HU6 := Lib.hid (HU5.out.fr (hf.wide (E := fun k => D k ∨ k = w.heap.size + 1) fun k hk => by rw [hk]; exact HK5.out.work.inD.1))
              have HK6 := Lib.hid (HK5.out.turn hf hw)
              clear hw hf HU5 HK5
              have d0 : Y2.cell? ⟨w.heap.size + 1, 0, none⟩ = some (.int .i64 0) := cell_at HK6.out.evb rfl
              have d1 : Y2.cell? ⟨w.heap.size + 1, 1, none⟩ = some (.slice none 0 0) := cell_at HK6.out.evb rfl
              have dz := fun o => free_at (o := o) HK6.out.evb
              have dl := heap_lt HK6.out.evb
              go_wp2
              exact bodyPost_ret (v := .agg #[.int .i64 2, .slice ra t2.length cp3]) (by simp [results, Try.results18, go_sem, d0, d1]) rfl (HK6.out.ends x 2 t2 ra cp3 (by rw [← HX.out, HE.out]) HU6.out)
            | cons a4 l4 =>
              have HE : Hid (goF r e M S1 = (M2, { S1 with l := a4 :: l4, t := t2 }, 1, [])) := Lib.hid (by rw [goF_step H1.out HDO.out, H3.out, H4.out])
              clear H1 H3 H4 HDO
              go_wp2_with fail
              refine (over_no _ a4 l4 t2 _ _ HQ.out.p).mono ?_
              rintro en Y ⟨rfl, hx⟩
              have HK5 := Lib.hid (HQ.out.pk.ext hx)
              have HP5 := Lib.hid (HQ.out.p.ext hx)
              replace g0 := ext_cell hx g0
              replace g1 := ext_cell hx g1
              replace g2 := ext_cell hx g2
              replace g3 := ext_cell hx g3
              replace g4 := ext_cell hx g4
              replace g5 := ext_cell hx g5
              replace g6 := ext_cell hx g6
              replace gl := Nat.lt_of_lt_of_le gl hx.size
              obtain ⟨s7, n7, c7', a7, f7, p7, hk7, _⟩ := HK5.out.work.prog
              have HB7 := Lib.hid hk7
              unfold wC at hk7
              obtain ⟨c0, c1, c2, c3, c4, c5, c6, c7, c8, c9, c10, c11, cz, ll⟩ := twe_of hk7
              have hpf := fd_one (putP_fr (b := b) (w := Y) (.slice sa2 n2 cp2) (.int .i64 a2.op) (.int .i64 a2.at_) (.int .u64 (U a2.a)) (.int .u64 (U a2.b)) fn2 (.pointer pp2))
              have HK6 : Hid (PkIn D lo hi L b p c (w.heap.size + 1) r e { S1 with l := a4 :: l4, t := t2 } M2 w (putP b (.slice sa2 n2 cp2) (.int .i64 a2.op) (.int .i64 a2.at_) (.int .u64 (U a2.a)) (.int .u64 (U a2.b)) fn2 (.pointer pp2) Y)) := by
                refine Lib.hid (HK5.out.turn hpf (HK5.out.work.lay hpf (S' := { S1 with l := a4 :: l4, t := t2 }) ?_ (HP5.out.fr (hpf.wide fun k hk => by rw [hk]; exact HK5.out.work.inD.1)) rfl rfl HRUN.out (fun h => by have := hBU.out; simp at h; rw [h] at this; cases this)))
                have h8 := HB7.out
                unfold wC at h8 ⊢
                exact putP_block _ _ _ _ _ _ _ h8
              have DE : Hid ((putP b (.slice sa2 n2 cp2) (.int .i64 a2.op) (.int .i64 a2.at_) (.int .u64 (U a2.a)) (.int .u64 (U a2.b)) fn2 (.pointer pp2) Y).heap[w.heap.size + 1]? = some (.cells #[.int .i64 0, .slice none 0 0] 57)) := Lib.hid HK6.out.evb
              have d0 : Y.cell? ⟨w.heap.size + 1, 0, none⟩ = some (.int .i64 0) := cell_at HK5.out.evb rfl
              have d1 : Y.cell? ⟨w.heap.size + 1, 1, none⟩ = some (.slice none 0 0) := cell_at HK5.out.evb rfl
              have dz := fun o => free_at (o := o) HK5.out.evb
              have dl := heap_lt HK5.out.evb
              have hne : b ≠ w.heap.size + 1 := by have := HK5.out.own; omega
              have hne2 : w.heap.size + 1 ≠ b := fun h => hne h.symm
              clear hx hk7 hpf HQ HB7 HP5
              have HEND := Lib.hid (HK6.out.ends x 1 [] none 0 (by rw [← HX.out, HE.out]) (UsB.nil _ _))
              unfold putP at HEND DE
              go_wp2
              have e0 := cell_at (o := 0) DE.out rfl
              have e1 := cell_at (o := 1) DE.out rfl
              exact bodyPost_ret (v := .agg #[.int .i64 1, .slice none 0 0]) (by simp [results, Try.results18, go_sem, e0, e1]) rfl HEND.out
end
end Go.Proofs.Ythepcnffadjeaaa
