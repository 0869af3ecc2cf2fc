/-
  What the call of joined comes to: the loop. Conditions: those of each theorem.
-/
import Derived.Test.YtmianpfomoghjaaProgJn
namespace Go.Proofs.Ytmianpfomoghjaa
open Go Go.RowKit

structure JIn (D : Nat → Prop) (B : Nat) (A : List Acc) (T : List (BitVec 64)) (w : World) (told : List (BitVec 64)) (ps : List (List Acc × List (BitVec 64))) (tv rv : Value) (wr : World) : Prop where
  tld : Told (fun k => D k ∨ k = B ∨ k = B + 1) wr told.reverse tv
  row : Row (fun k => D k ∨ k = B ∨ k = B + 1) wr ps rv
  fresh : Fresh ps
  acc : accs ps = A
  sum : told ++ tsum ps = T
  box : wr.heap[B]? = some (.cells #[tv] 131)
  res : wr.heap[B + 1]? = some (.cells #[.slice none 0 0, .int .i64 0, .int .i64 0, .int .u64 0, .int .u64 0, .nilFunc, .pointer none] 46)
  ext : Ext w wr
def JRel (D : Nat → Prop) (B : Nat) (A : List Acc) (T : List (BitVec 64)) (w : World) (rv : Value) (wr : World) : Prop := ∃ told ps tv, JIn D B A T w told ps tv rv wr
/-- Behind the boxes of the first one, and of the rest. -/
structure JQ (bp br : Nat) (sa : Option Addr) (n c : Nat) (a : Acc) (fn rest : Value) (wr T : World) : Prop where
  hbp : T.heap[bp]? = some (.cells #[.slice sa n c, .int .i64 a.op, .int .i64 a.at_, .int .u64 (U a.a), .int .u64 (U a.b), fn, .pointer none] 46)
  hbr : T.heap[br]? = some (.cells #[rest] 44)
  nbp : wr.heap.size ≤ bp
  nbr : wr.heap.size ≤ br
  ext : Ext wr T

set_option maxRecDepth 8000 in
set_option maxHeartbeats 4000000 in
theorem joined_step (N : Nat) (IH : Hid (∀ M, M < N → JoinedAt M)) : JoinedAt N := by
  intro D told0 ps0 tv0 rv0 w hN hT0 hR0 hF0 hl hb
  have HI : Hid (JIn D w.heap.size (accs ps0) (told0 ++ tsum ps0) w told0 ps0 tv0 rv0 ((w.alloc (.cells #[tv0] 131)).alloc (.cells #[.slice none 0 0, .int .i64 0, .int .i64 0, .int .u64 0, .int .u64 0, .nilFunc, .pointer none] 46))) := by
    refine Lib.hid ⟨(hT0.more fun k hk h => h.resolve_right (by omega)).ext (ext_alloc _ (ext_alloc _ (ext_refl w))), (hR0.more fun k hk => ⟨fun h => h.resolve_right (by omega), .inl⟩).ext (ext_alloc _ (ext_alloc _ (ext_refl w))), hF0, rfl, rfl, ?_, heap_at _ _ _ (by simp), ext_alloc _ (ext_alloc _ (ext_refl w))⟩
    rw [Below.heap_alloc _ _ _ (by simp)]
    exact heap_at w _ _ rfl
  have hlen : (told0 ++ tsum ps0).length + (accs ps0).length ≤ 1000 := by simp only [List.length_append]; omega
  obtain ⟨tp0, rfl⟩ := hT0.ptr
  obtain ⟨rp0, rfl⟩ := hR0.ptr
  generalize accs ps0 = A at HI hN hlen ⊢
  generalize told0 ++ tsum ps0 = T at HI hlen ⊢
  clear hT0 hR0 hF0 hl
  go_enter Try.func42, Try.ntmps42
  go_wp2
  generalize hW : World.alloc _ (.cells #[.slice none 0 0, .int .i64 0, .int .i64 0, .int .u64 0, .int .u64 0, .nilFunc, .pointer none] 46) = W at HI ⊢
  clear hW
  generalize hB : w.heap.size = B at HI hb ⊢
  go_loopw [1] (fun rv wr => JRel D B A T w rv wr) (fun rv _ => ptrNum rv)
  case atStart => exact ⟨_, _, _, HI.out⟩
  case round =>
    clear HI
    obtain ⟨told, ps, tv, hS⟩ := hrel
    obtain ⟨tp, rfl⟩ := hS.tld.ptr
    have HDE : Hid (∀ V : World, Ext wr V → ∀ k, (D k ∨ k = B ∨ k = B + 1) → k < V.heap.size) := Lib.hid fun V hV k hk => by
      have h1 := hV.size
      have h2 := heap_lt hS.res
      rcases hk with hk | rfl | rfl
      · have := hb k hk; omega
      · omega
      · omega
    have e0 := cell_at (o := 0) hS.box rfl
    have ez : ∀ o, wr.frozen? ⟨B, o, none⟩ = false := fun o => free_at hS.box
    have le := heap_lt hS.box
    cases ps with
    | nil =>
      cases hS.row
      have HS := Lib.hid hS
      obtain ⟨c0, c1, c2, c3, c4, c5, c6, cz, ll⟩ := sev_of hS.res
      clear hS
      go_wp2_with (go_at_call 59; refine (words_any _ told.reverse _ _ HS.out.tld (by have := HS.out.sum; rw [← this] at hlen; simp at hlen ⊢; omega)).mono ?_; rintro e w1 ⟨v', rfl, hu, hx⟩; refine Hid.out ?_)
      refine Lib.hid ?_
      obtain ⟨a1, cap1, rfl, _⟩ := id hu
      have hbR := (hx.block _ ll).trans HS.out.res
      have hX := put7_ext (b := B + 1) (.slice a1 told.reverse.reverse.length cap1) (.int .i64 0) (.int .i64 0) (.int .u64 0) (.int .u64 0) .nilFunc (.pointer none) (ext_trans HS.out.ext hx) (by omega)
      have hBk := put7_block (.slice a1 told.reverse.reverse.length cap1) (.int .i64 0) (.int .i64 0) (.int .u64 0) (.int .u64 0) .nilFunc (.pointer none) hbR
      have hUs := hu.fr (FD.of_fr (lo := 0) (hi := wr.heap.size) ((put7_fr (w := w1) (b := B + 1) (.slice a1 told.reverse.reverse.length cap1) (.int .i64 0) (.int .i64 0) (.int .u64 0) (.int .u64 0) .nilFunc (.pointer none)).wide (Nat.le_refl _) ll) fun k _ h => h)
      rw [List.reverse_reverse] at hX hBk hUs ⊢
      rw [put7] at hX hBk hUs
      clear c0 c1 c2 c3 c4 c5 c6 cz
      obtain ⟨c0, c1, c2, c3, c4, c5, c6, cz, ll1⟩ := sev_of hbR
      have HZ := Lib.hid (And.intro hX (And.intro hBk hUs))
      clear hX hBk hUs hbR hx hu
      go_wp2
      clear c0 c1 c2 c3 c4 c5 c6 cz
      obtain ⟨hX, hBk, hUs⟩ := HZ.out
      clear HZ
      generalize (World.setCell _ (⟨B + 1, 6, none⟩ : Addr) _) = Z at hX hBk hUs ⊢
      obtain ⟨c0, c1, c2, c3, c4, c5, c6, cz, ll2⟩ := sev_of hBk
      have hA : A = [] := by rw [← HS.out.acc]; rfl
      have hT : T = told := by rw [← HS.out.sum]; exact List.append_nil _
      rw [hA, hT]
      exact bodyPost_ret (v := .agg #[.slice a1 told.length cap1, .int .i64 0, .int .i64 0, .int .u64 0, .int .u64 0, .nilFunc, .pointer none]) (by simp only [results, Try.results42, go_sem]; simp [go_sem, c0, c1, c2, c3, c4, c5, c6]) rfl ⟨_, rfl, hX, _, by unfold pV accZ; rw [U_0], hUs.mono fun k hk => by have := hb k hk; omega⟩
    | cons p ps =>
      obtain ⟨g, sa, n, c, a, fn, rest, rfl, hg, hblk, hp, hfn, hnum, hrow⟩ := hS.row
      obtain ⟨rp, rfl⟩ := hrow.ptr
      have g0 := cell_at (o := 0) hblk rfl
      have g1 := cell_at (o := 1) hblk rfl
      have g2 := cell_at (o := 2) hblk rfl
      have g3 := cell_at (o := 3) hblk rfl
      have g4 := cell_at (o := 4) hblk rfl
      have g5 := cell_at (o := 5) hblk rfl
      have g6 := cell_at (o := 6) hblk rfl
      have g7 := cell_at (o := 7) hblk rfl
      have lg := heap_lt hblk
      have hsf := store_fn hfn
      have HS := Lib.hid hS
      clear hS
      go_wp2
      rename_i K2 hK2
      have HAFTER : ∀ {x7 x8 x9 x10 x11 x12 x13 x14 x15 x16 x17 x18 x19 x20 x21 x22 x23 x24 x25 x26 x27 x28 x29 x30 x31 x32 x33 x34 x35 x36 x37 x38 x39 x40 x41 x42 x43 x44 x45 x46 x47 x48 x49 x50 x51 : Value} (bp br : Nat) (V : World), JQ bp br sa n c a fn (.pointer rp) wr V → K2 { tmps := #[.pointer tp0, .pointer (some ⟨g, 0, none⟩), .pointer (some ⟨B, 0, none⟩), undef, .pointer (some ⟨B + 1, 0, none⟩), .pointer (some ⟨bp, 0, none⟩), .pointer (some ⟨br, 0, none⟩), x7, x8, x9, x10, x11, x12, x13, x14, x15, x16, x17, x18, x19, x20, x21, x22, x23, x24, x25, x26, x27, x28, x29, x30, x31, x32, x33, x34, x35, x36, x37, x38, x39, x40, x41, x42, x43, x44, x45, x46, x47, x48, x49, x50, x51, undef, undef, undef], defers := [] } V := by
        intro x7 x8 x9 x10 x11 x12 x13 x14 x15 x16 x17 x18 x19 x20 x21 x22 x23 x24 x25 x26 x27 x28 x29 x30 x31 x32 x33 x34 x35 x36 x37 x38 x39 x40 x41 x42 x43 x44 x45 x46 x47 x48 x49 x50 x51 bp br V hQ
        refine hK2 _ _ ?_
        clear hK2
        obtain ⟨q0, q1, q2, q3, q4, q5, q6, qz, ql⟩ := sev_of hQ.hbp
        have r0 := cell_at (o := 0) hQ.hbr rfl
        have lr := heap_lt hQ.hbr
        have f0 := ext_cell hQ.ext e0
        have fz : ∀ o, V.frozen? ⟨B, o, none⟩ = false := fun o => by rw [hQ.ext.frozen (p := ⟨B, o, none⟩) le]; exact ez o
        have lf := Nat.lt_of_lt_of_le le hQ.ext.size
        have HQ := Lib.hid hQ
        have HP := Lib.hid hp
        have HRW := Lib.hid hrow
        have HNM := Lib.hid hnum
        have hBw : B + 1 < wr.heap.size := heap_lt HS.out.res
        clear hQ hp hrow hnum g0 g1 g2 g3 g4 g5 g6 g7 hg hblk e0 ez
        obtain ⟨pl, pt⟩ := p
        cases pl with
        | nil =>
          obtain ⟨rv, e1, hu⟩ := HP.out
          have hfn' : fn = .nilFunc ∧ rv = .slice sa n c := by
            unfold pV at e1
            simp at e1
            exact ⟨e1.2.2.2.2.2, e1.1.symm⟩
          obtain ⟨rfl, rfl⟩ := hfn'
          have HU := Lib.hid hu
          clear hu e1 HP hfn hsf
          have n0 : ∀ w, (binOp .eql 43 .nilFunc .nilFunc).run Try.prog w = .ok (.bool true) w := fun w => eql_nil w fnUs
          go_wp2
          have hne1 : bp ≠ B := by have := HQ.out.nbp; omega
          have hne2 : br ≠ B := by have := HQ.out.nbr; omega
          refine wp_region_mix (fun w' => ∃ s, w' = off1 B V s) [(0, [1, 2, 4]), (1, [0]), (1, [3]), (1, [5]), (0, [6])] (by kernel_rfl) (by kernel_rfl) (off1_of (.of_ext (ext_drew (ext_refl V)))) ?_
          simp only [pieces, pickL, List.map_cons, List.map_nil, List.getD_cons_zero, List.getD_cons_succ]
          refine mix_reads ?_
          repeat (go_big_quiet_step (fail))
          refine wpQuiet_nil (mix_acts ?_)
          go_wp2
          refine mixQ_mk (off1_of (.of_ext (ext_drew (ext_refl V)))) (mix_acts ?_)
          have hsum := HS.out.sum
          have hpl : pt.length ≤ 1000 := by
            rw [← hsum] at hlen
            simp [tsum] at hlen
            omega
          go_wp2_with (go_at_call 61; refine (with_any (fun k => D k ∨ k = B ∨ k = B + 1) pt told.reverse _ _ _ (HS.out.tld.ext (ext_trans HQ.out.ext (ext_drew (ext_refl V)))) (HU.out.us.ext (ext_trans HQ.out.ext (ext_drew (ext_refl V)))) hpl (fun k hk => HDE.out V HQ.out.ext k hk)).mono ?_; rintro e w1 ⟨v1, rfl, ht, hx⟩; obtain ⟨tp1, rfl⟩ := ht.ptr; have HX1 := Lib.hid (ext_trans (ext_drew (ext_refl V)) hx); have HT1 := Lib.hid ht; clear hx ht)
          refine mixQ_mk (off1_of (.of_ext HX1.out)) (mix_acts ?_)
          have hE1 := ext_trans HQ.out.ext HX1.out
          have hbB := (hE1.block _ le).trans HS.out.box
          have h0 := cell_at (o := 0) hbB rfl
          have hz0 := free_at (o := 0) hbB
          have lB1 := heap_lt hbB
          have hFD : FD (fun k => D k ∨ k = B ∨ k = B + 1) w1 (w1.setCell ⟨B, 0, none⟩ (.pointer tp1)) := FD.of_fr ((Fr.refl B (B + 1) w1).set (p := ⟨B, 0, none⟩) _ (Nat.le_refl _) (Nat.lt_succ_self _)) fun k h1 h2 => .inr (.inl (by omega))
          have HJ : Hid (JIn D B A T w (told ++ pt) ps (.pointer tp1) (.pointer rp) (w1.setCell ⟨B, 0, none⟩ (.pointer tp1))) := by
            obtain ⟨ts0, hfr⟩ := tsum_tail HS.out.fresh
            refine Lib.hid ⟨?_, (HRW.out.ext hE1).fr hFD, hfr, HS.out.acc, ?_, ?_, ?_, ext_set _ (Nat.le_of_eq hB) (ext_trans HS.out.ext hE1)⟩
            · rw [List.reverse_append]
              exact HT1.out.fr hFD
            · rw [ts0, List.append_nil]
              exact hsum
            · have h := set_same (o := 0) (.pointer tp1) hbB
              simpa using h
            · rw [set_other _ (by omega)]
              exact (hE1.block _ (heap_lt HS.out.res)).trans HS.out.res
          have HFR := Lib.hid ((Fr.of_ext (lo := B) (hi := B + 1) HX1.out).set (p := ⟨B, 0, none⟩) (.pointer tp1) (Nat.le_refl _) (Nat.lt_succ_self _))
          clear hE1 hbB hFD
          go_wp2
          refine mixQ_mk (off1_of HFR.out) (mix_reads ?_)
          repeat (go_big_quiet_step (fail))
          refine wpQuiet_nil (mix_end ?_)
          go_wp2
          exact ⟨⟨_, _, _, HJ.out⟩, by have := HNM.out; show ptrNum (.pointer rp) < g + 1; omega⟩
        | cons a' l' =>
          obtain ⟨gf, caps, e1, _⟩ := id HP.out
          have hfn' : fn = .func (.func gf) #[] caps ∧ a = a' ∧ (.slice sa n c : Value) = .slice none 0 0 := by
            unfold pV at e1
            simp at e1
            obtain ⟨⟨rfl, rfl, rfl⟩, h1, h2, h3, h4, h5⟩ := e1
            refine ⟨h5, ?_, rfl⟩
            cases a
            cases a'
            simp only [Acc.mk.injEq]
            exact ⟨h1, h2, by simpa [U_eq] using h3, by simpa [U_eq] using h4⟩
          obtain ⟨rfl, rfl, esl⟩ := hfn'
          simp at esl
          obtain ⟨rfl, rfl, rfl⟩ := esl
          clear e1
          have n0 : ∀ f x y w, (binOp .eql 43 (.func f x y) .nilFunc).run Try.prog w = .ok (.bool false) w := fun f x y w => eql_fn w fnUs f x y
          have hbR := (HQ.out.ext.block _ (heap_lt HS.out.res)).trans HS.out.res
          obtain ⟨c0, c1, c2, c3, c4, c5, c6, cz, ll⟩ := sev_of hbR
          have HBR := Lib.hid hbR
          clear hbR
          have hX := put7_ext (b := B + 1) (.slice none 0 0) (.int .i64 a.op) (.int .i64 a.at_) (.int .u64 (U a.a)) (.int .u64 (U a.b)) (.func (.func 64) #[] #[.pointer (some ⟨B, 0, none⟩), .pointer (some ⟨bp, 0, none⟩), .pointer (some ⟨br, 0, none⟩)]) (.pointer none) (ext_trans HS.out.ext HQ.out.ext) (by omega)
          have hBk := put7_block (.slice none 0 0) (.int .i64 a.op) (.int .i64 a.at_) (.int .u64 (U a.a)) (.int .u64 (U a.b)) (.func (.func 64) #[] #[.pointer (some ⟨B, 0, none⟩), .pointer (some ⟨bp, 0, none⟩), .pointer (some ⟨br, 0, none⟩)]) (.pointer none) HBR.out
          have hFD : FD (fun k => D k ∨ k = B ∨ k = B + 1) V (put7 (B + 1) (.slice none 0 0) (.int .i64 a.op) (.int .i64 a.at_) (.int .u64 (U a.a)) (.int .u64 (U a.b)) (.func (.func 64) #[] #[.pointer (some ⟨B, 0, none⟩), .pointer (some ⟨bp, 0, none⟩), .pointer (some ⟨br, 0, none⟩)]) (.pointer none) V) := put7_fd (.slice none 0 0) (.int .i64 a.op) (.int .i64 a.at_) (.int .u64 (U a.a)) (.int .u64 (U a.b)) (.func (.func 64) #[] #[.pointer (some ⟨B, 0, none⟩), .pointer (some ⟨bp, 0, none⟩), .pointer (some ⟨br, 0, none⟩)]) (.pointer none) (.inr (.inr rfl))
          have hz1 := (put7_other (w := V) (b := B + 1) (k := B) (.slice none 0 0) (.int .i64 a.op) (.int .i64 a.at_) (.int .u64 (U a.a)) (.int .u64 (U a.b)) (.func (.func 64) #[] #[.pointer (some ⟨B, 0, none⟩), .pointer (some ⟨bp, 0, none⟩), .pointer (some ⟨br, 0, none⟩)]) (.pointer none) (by omega)).trans ((HQ.out.ext.block _ le).trans HS.out.box)
          have hz2 := (put7_other (w := V) (b := B + 1) (k := bp) (.slice none 0 0) (.int .i64 a.op) (.int .i64 a.at_) (.int .u64 (U a.a)) (.int .u64 (U a.b)) (.func (.func 64) #[] #[.pointer (some ⟨B, 0, none⟩), .pointer (some ⟨bp, 0, none⟩), .pointer (some ⟨br, 0, none⟩)]) (.pointer none) (by have := HQ.out.nbp; omega)).trans HQ.out.hbp
          have hz3 := (put7_other (w := V) (b := B + 1) (k := br) (.slice none 0 0) (.int .i64 a.op) (.int .i64 a.at_) (.int .u64 (U a.a)) (.int .u64 (U a.b)) (.func (.func 64) #[] #[.pointer (some ⟨B, 0, none⟩), .pointer (some ⟨bp, 0, none⟩), .pointer (some ⟨br, 0, none⟩)]) (.pointer none) (by have := HQ.out.nbr; omega)).trans HQ.out.hbr
          rw [put7] at hX hBk hFD hz1 hz2 hz3
          have HZ := Lib.hid (And.intro hX (And.intro hBk (And.intro hFD (And.intro hz1 (And.intro hz2 hz3)))))
          clear hX hBk hFD hz1 hz2 hz3
          go_wp2
          clear c0 c1 c2 c3 c4 c5 c6 cz ll q0 q1 q2 q3 q4 q5 q6 qz r0 f0 fz
          obtain ⟨hX, hBk, hFD, hz1, hz2, hz3⟩ := HZ.out
          clear HZ
          generalize (World.setCell _ (⟨B + 1, 6, none⟩ : Addr) _) = Z at hX hBk hFD hz1 hz2 hz3 ⊢
          obtain ⟨c0, c1, c2, c3, c4, c5, c6, cz, ll⟩ := sev_of hBk
          have hacc : A = a :: (l' ++ accs ps) := by rw [← HS.out.acc]; rfl
          have hsum : T = told ++ pt := HS.out.sum.symm
          rw [hacc] at hN hlen ⊢
          rw [hsum] at hlen ⊢
          simp only [List.length_cons, List.length_append] at hN hlen
          refine bodyPost_ret (v := pV (.slice none 0 0) a (.func (.func 64) #[] #[.pointer (some ⟨B, 0, none⟩), .pointer (some ⟨bp, 0, none⟩), .pointer (some ⟨br, 0, none⟩)]) (.pointer none)) (by simp only [results, Try.results42, go_sem]; simp [go_sem, pV, c0, c1, c2, c3, c4, c5, c6]) rfl ⟨_, rfl, hX, _, _, rfl, enters_of Try.func64 (by kernel_rfl) rfl, fun E hE x U' hU hs => ?_⟩
          have hnd : ∀ j, B ≤ j → j < Z.heap.size → ¬ E j := fun j h1 h2 h3 => by have := hb j ((hE j h2).1 h3); omega
          have hsub : ∀ k, D k → (D k ∨ k = B ∨ k = B + 1) := fun k h => .inl h
          have hzb := heap_lt hz1
          have hzp := heap_lt hz2
          have hzr := heap_lt hz3
          have hbpB : B ≤ bp := by have := HQ.out.nbp; omega
          have hbrB : B ≤ br := by have := HQ.out.nbr; omega
          have k1 := cell_at (o := 0) ((hU.block _ hzb (hnd B (Nat.le_refl _) hzb)).trans hz1) rfl
          have k2 := (hU.block _ hzp (hnd bp hbpB hzp)).trans hz2
          have k3 := cell_at (o := 0) ((hU.block _ hzr (hnd br hbrB hzr)).trans hz3) rfl
          have hT' := (((HS.out.tld.ext HQ.out.ext).fr hFD).mono hsub).more (E := E) fun k hk h => (hE k hk).1 h
          have hP' := (PL.mono hsub ((HP.out.ext HQ.out.ext).fr hFD)).more hE
          have hR' := (Row.mono hsub ((HRW.out.ext HQ.out.ext).fr hFD)).more hE
          have eacc : accs ((l', pt ++ [x]) :: ps) = l' ++ accs ps := rfl
          have hfr : ∀ q ∈ ps, q.2 = [] := HS.out.fresh
          have := joined1 (l' ++ accs ps).length (Lib.hid (IH.out (l' ++ accs ps).length (by simp only [List.length_append]; omega))) E x a l' pt told ps (.pointer tp) (.pointer rp) none 0 0 _ B bp br U' (by show (accs ((l', pt ++ [x]) :: ps)).length ≤ _; rw [eacc]; exact Nat.le_refl _) (hT'.fr hU) (hP'.fr hU) (hR'.fr hU) hfr k1 k2 k3 (by rw [eacc]; simp only [List.length_append]; omega) hs
          refine this.mono fun en u hu => ?_
          obtain ⟨v', e1, e2, e3⟩ := hu
          exact ⟨v', e1, e2, by rw [List.append_assoc]; exact e3⟩
      clear hK2
      go_region
      · refine HAFTER wr.heap.size (wr.heap.size + 1) _ ⟨(Below.heap_alloc _ _ _ (by simp)).trans (heap_at wr _ _ rfl), heap_at _ _ _ (by simp), Nat.le_refl _, Nat.le_succ _, ext_drew (ext_alloc _ (ext_alloc _ (ext_refl wr)))⟩
      · refine HAFTER (wr.heap.size + 1) wr.heap.size _ ⟨heap_at _ _ _ (by simp), (Below.heap_alloc _ _ _ (by simp)).trans (heap_at wr _ _ rfl), Nat.le_succ _, Nat.le_refl _, ext_drew (ext_alloc _ (ext_alloc _ (ext_refl wr)))⟩

theorem joined_all : ∀ N, JoinedAt N := fun N => by
  induction N using Nat.strongRecOn with
  | ind N ih => exact joined_step N (Lib.hid ih)

end Go.Proofs.Ytmianpfomoghjaa
