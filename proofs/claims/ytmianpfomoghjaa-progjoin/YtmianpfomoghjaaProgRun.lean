/-
  What the call of Run comes to. Conditions: those of each theorem.
-/
import Derived.Test.YtmianpfomoghjaaProgStep
namespace Go.Proofs.Ytmianpfomoghjaa
open Go Go.RowKit

instance (M : MS) (r : Int) (e : BitVec 64) (op at_ : Int) : Decidable (DoOk M r e op at_) := by
  unfold DoOk Good
  infer_instance
/-- So many accesses, one behind the other, to one that is refused: the memory, what they told, what is left. -/
def runF (r : Int) (e : BitVec 64) : List Acc → Nat → MS → MS × List (BitVec 64) × List Acc
  | [], _, M => (M, [], [])
  | a :: l, 0, M => (M, [], a :: l)
  | a :: l, k + 1, M => if DoOk M r e a.op a.at_ then ((runF r e l k (M.done r a.op a.at_ a.a a.b)).1, M.wd r.toNat a.at_.toNat :: (runF r e l k (M.done r a.op a.at_ a.a a.b)).2.1, (runF r e l k (M.done r a.op a.at_ a.a a.b)).2.2) else (M, [], a :: l)
theorem runF_zero (r : Int) (e : BitVec 64) (l : List Acc) (M : MS) : runF r e l 0 M = (M, [], l) := by
  cases l <;> rfl
theorem runF_no {r : Int} {e : BitVec 64} {a : Acc} {l : List Acc} {M : MS} (h : ¬ DoOk M r e a.op a.at_) (k : Nat) : runF r e (a :: l) k M = (M, [], a :: l) := by
  cases k with
  | zero => rfl
  | succ k => rw [runF, if_neg h]
/-- Behind the words ts, as if from there. -/
def runAs (r : Int) (e : BitVec 64) (l : List Acc) (m : Nat) (M : MS) (ts : List (BitVec 64)) (l' : List Acc) (m' : Nat) (M' : MS) : Prop :=
  (runF r e l m M).1 = (runF r e l' m' M').1 ∧ (runF r e l m M).2.1 = ts ++ (runF r e l' m' M').2.1 ∧ (runF r e l m M).2.2 = (runF r e l' m' M').2.2
theorem runAs.step {r : Int} {e : BitVec 64} {l l' : List Acc} {m m' : Nat} {M M' : MS} {ts : List (BitVec 64)} {a : Acc} (h : runAs r e l m M ts (a :: l') (m' + 1) M') (hd : DoOk M' r e a.op a.at_) :
    runAs r e l m M (ts ++ [M'.wd r.toNat a.at_.toNat]) l' m' (M'.done r a.op a.at_ a.a a.b) := by
  obtain ⟨h1, h2, h3⟩ := h
  rw [runF, if_pos hd] at h1 h2 h3
  exact ⟨h1, by rw [h2, List.append_assoc]; rfl, h3⟩

def RetRun (D : Nat → Prop) (lo hi : Nat) (L : Lay) (x : MS × List (BitVec 64) × List Acc) (t : List (BitVec 64)) (w : World) (en : Ending) (w' : World) : Prop :=
  ∃ rv, en = .returned (.tuple #[rv, .int .i64 (x.2.1.length : Int), .bool x.2.2.isEmpty]) ∧ MemIn lo hi L x.1 w' ∧ Fr lo hi w w' ∧ (x.2.2 = [] → UsB D w' rv (t ++ x.2.1)) ∧ (x.2.2 ≠ [] → rv = .slice none 0 0)
theorem runAs.ends {D : Nat → Prop} {lo hi : Nat} {L : Lay} {r : Int} {e : BitVec 64} {l l' : List Acc} {m m' : Nat} {M M' : MS} {t ts : List (BitVec 64)} {w : World} (h : runAs r e l m M ts l' m' M') (hE : runF r e l' m' M' = (M', [], l')) :
    ∀ en w', RetRun D lo hi L (M', ts, l') t w en w' → RetRun D lo hi L (runF r e l m M) t w en w' := by
  obtain ⟨h1, h2, h3⟩ := h
  rw [hE] at h1 h2 h3
  have : runF r e l m M = (M', ts, l') := Prod.ext h1 (Prod.ext (h2.trans (List.append_nil _)) h3)
  rw [this]
  exact fun _ _ h => h
def RetOverA (D : Nat → Prop) (l : List Acc) (t : List (BitVec 64)) (w : World) (e : Ending) (w' : World) : Prop := ∃ rv, e = .returned (.tuple #[rv, .bool l.isEmpty]) ∧ Ext w w' ∧ (l = [] → UsB D w' rv t) ∧ (l ≠ [] → rv = .slice none 0 0)
theorem over_any (D : Nat → Prop) (l : List Acc) (t : List (BitVec 64)) (v : Value) (w : World) (hP : PH D l t v w) (hl : t.length ≤ 1000) (hb : ∀ k, D k → k < w.heap.size) :
    Calls Try.prog 22 #[v] w (RetOverA D l t w) := by
  cases l with
  | nil => exact (over_yes D t v w hP hl hb).mono fun e w' ⟨rv, h1, h2, h3⟩ => ⟨rv, h1, h3, fun _ => h2, fun h => absurd rfl h⟩
  | cons a l => exact (over_no D a l t v w hP).mono fun e w' ⟨h1, h3⟩ => ⟨_, h1, h3, fun h => (by cases h), fun _ => rfl⟩
theorem PH.shape {D : Nat → Prop} {l : List Acc} {t : List (BitVec 64)} {v : Value} {w : World} (h : PH D l t v w) : ∃ sa n c a fn p, v = pV (.slice sa n c) a fn (.pointer p) ∧ (fn = .nilFunc ∨ ∃ g caps, fn = .func (.func g) #[] caps) := by
  cases l with
  | nil => obtain ⟨rv, p, e, hu⟩ := h; obtain ⟨a1, c1, rfl, _⟩ := hu; exact ⟨_, _, _, _, _, _, e, .inl rfl⟩
  | cons a l => obtain ⟨g, caps, p, e, _⟩ := h; exact ⟨_, _, _, _, _, _, e, .inr ⟨_, _, rfl⟩⟩
/-- A program in its box. -/
structure BoxP (B : Nat) (v : Value) (w : World) : Prop where
  blk : ∃ sa n c a fn p, v = pV (.slice sa n c) a fn (.pointer p) ∧ (fn = .nilFunc ∨ ∃ g caps, fn = .func (.func g) #[] caps) ∧ w.heap[B]? = some (.cells #[.slice sa n c, .int .i64 a.op, .int .i64 a.at_, .int .u64 (U a.a), .int .u64 (U a.b), fn, .pointer p] 46)
structure RunIn (D : Nat → Prop) (lo hi : Nat) (L : Lay) (r : Int) (e : BitVec 64) (l : List Acc) (m : Nat) (M : MS) (t : List (BitVec 64)) (B : Nat) (w : World) (k : Nat) (l' : List Acc) (ts : List (BitVec 64)) (M' : MS) (v : Value) (wr : World) : Prop where
  km : k ≤ m
  kt : k = ts.length
  kl : ts.length + l'.length = l.length
  ras : runAs r e l m M ts l' (m - k) M'
  p : PH D l' (t ++ ts) v wr
  mem : MemIn lo hi L M' wr
  fr : Fr lo hi w wr
  box : BoxP B v wr
  cap : wr.heap[B + 1]? = some (.cells #[.int .i64 r, .int .u64 (U e)] 37)
def RunRel (D : Nat → Prop) (lo hi : Nat) (L : Lay) (r : Int) (e : BitVec 64) (l : List Acc) (m : Nat) (M : MS) (t : List (BitVec 64)) (B : Nat) (w : World) (i : Value) (wr : World) : Prop :=
  ∃ (k : Nat) (l' : List Acc) (ts : List (BitVec 64)) (M' : MS) (v : Value), i = .int .i64 (k : Int) ∧ RunIn D lo hi L r e l m M t B w k l' ts M' v wr

set_option maxRecDepth 8000 in
set_option maxHeartbeats 4000000 in
theorem run_any (D : Nat → Prop) {lo hi : Nat} {L : Lay} {M : MS} (l : List Acc) (t : List (BitVec 64)) (v : Value) (r : Int) (e : BitVec 64) (most : Int) (w : World) (hP : PH D l t v w) (hM : MemIn lo hi L M w) (hl : t.length + l.length ≤ 1000)
    (hD : ∀ k, lo ≤ k → k < hi → D k) (hb : ∀ k, D k → k < w.heap.size) :
    Calls Try.prog 13 #[v, .pointer (some ⟨L.bm, 0, none⟩), .agg #[.int .i64 r, .int .u64 (U e)], .int .i64 most] w (RetRun D lo hi L (runF r e l most.toNat M) t w) := by
  have HP := Lib.hid hP
  have HM := Lib.hid hM
  have hhi := hM.top
  obtain ⟨sa, n, c, a, fn, p, rfl, hfn⟩ := hP.shape
  have HFN := Lib.hid hfn
  clear hfn hP hM
  have HI : Hid (RunIn (fun k => D k ∨ k = w.heap.size) lo hi L r e l most.toNat M t w.heap.size w 0 l [] M (pV (.slice sa n c) a fn (.pointer p)) (((w.alloc (.cells #[.slice sa n c, .int .i64 a.op, .int .i64 a.at_, .int .u64 (U a.a), .int .u64 (U a.b), fn, .pointer p] 46)).alloc (.cells #[.int .i64 r, .int .u64 (U e)] 37)))) := by
    refine Lib.hid ⟨Nat.zero_le _, rfl, by simp, ⟨rfl, rfl, rfl⟩, ?_, (HM.out.alloc _).alloc _, .of_ext (ext_alloc _ (ext_alloc _ (ext_refl w))), ⟨sa, n, c, a, fn, p, rfl, HFN.out, ?_⟩, heap_at _ _ _ (by simp)⟩
    · rw [List.append_nil]
      exact (HP.out.more fun k hk => ⟨fun h => h.resolve_right (by omega), .inl⟩).ext (ext_alloc _ (ext_alloc _ (ext_refl w)))
    · rw [Below.heap_alloc _ _ _ (by simp)]
      exact heap_at w _ _ rfl
  have hBt : ∀ k, (D k ∨ k = w.heap.size) → k < w.heap.size + 1 := fun k hk => by
    rcases hk with hk | rfl
    · have := hb k hk; omega
    · omega
  have hDt : ∀ k, lo ≤ k → k < hi → (D k ∨ k = w.heap.size) := fun k h1 h2 => .inl (hD k h1 h2)
  unfold pV
  rcases HFN.out with rfl | ⟨g, caps, rfl⟩
  all_goals
    go_enter Try.func13, Try.ntmps13
    go_wp2
    go_loopw [11] (fun i wr => RunRel (fun k => D k ∨ k = w.heap.size) lo hi L r e l most.toNat M t w.heap.size w i wr) (fun i _ => (l.length - intOf i).toNat)
    case atStart => exact ⟨0, _, _, _, _, rfl, HI.out⟩
    case round =>
      obtain ⟨k, l', ts, M', v, rfl, hR⟩ := hrel
      have HR := Lib.hid hR
      obtain ⟨sa', n', c', a', fn', p', rfl, hfn', hblk⟩ := hR.box.blk
      have HFN' := Lib.hid hfn'
      have HBK := Lib.hid hblk
      obtain ⟨cc0, cc1, cc2, cc3, cc4, cc5, cc6, cz, ll⟩ := sev_of hblk
      have cp0 := cell_at (o := 0) hR.cap rfl
      have cp1 := cell_at (o := 1) hR.cap rfl
      have lp := heap_lt hR.cap
      have hsz := hR.fr.size
      have hkm := hR.km
      have hkt := hR.kt
      have hkl := hR.kl
      clear hR hfn' hblk HI HFN HP
      by_cases hlt : (k : Int) < most
      · cases l' with
        | nil =>
          have HF := Lib.hid (HR.out.ras.ends (D := D) (lo := lo) (hi := hi) (L := L) (t := t) (w := w) rfl)
          rcases HFN'.out with rfl | ⟨g', caps', rfl⟩
          all_goals
            go_wp2_with (first
              | (go_at_call 24; refine (step_over _ (t ++ ts) _ _ r e _ HR.out.p).mono ?_; rintro e1 w1 ⟨rfl, hx⟩; have HX := Lib.hid hx; clear hx; have cc0 := ext_cell HX.out cc0; have cc1 := ext_cell HX.out cc1; have cc2 := ext_cell HX.out cc2; have cc3 := ext_cell HX.out cc3; have cc4 := ext_cell HX.out cc4; have cc5 := ext_cell HX.out cc5; have cc6 := ext_cell HX.out cc6; have ll1 := Nat.lt_of_lt_of_le ll HX.out.size; unfold pV)
              | (go_at_call 22; refine (over_any _ [] (t ++ ts) _ _ (HR.out.p.ext (ext_trans HX.out (ext_alloc _ (ext_refl _)))) (by simp; omega) (fun k hk => by have := hBt k hk; have := HX.out.size; simp; omega)).mono ?_; rintro e1 w1' ⟨rv, rfl, hx, hy1, hy2⟩; have HY1 := Lib.hid hy1; have HY2 := Lib.hid hy2; clear hy1 hy2; replace hx := ext_trans (ext_trans HX.out (ext_alloc _ (ext_refl _))) hx))
            exact bodyPost_ret (v := .tuple #[rv, .int .i64 (ts.length : Int), .bool true]) (by simp [results, Try.results13, go_sem]) rfl (HF.out _ _ ⟨rv, rfl, HR.out.mem.ext hx, HR.out.fr.ext hx, fun _ => (HY1.out trivial).mono fun k hk => .inl hk, fun h => absurd rfl h⟩)
        | cons b l2 =>
          by_cases hd : DoOk M' r e b.op b.at_
          · go_wp2_with (go_at_call 24; refine (step_yes _ b l2 (t ++ ts) _ r e _ HR.out.p HR.out.mem hd hDt (fun k hk => by have := hBt k hk; omega)).mono ?_; rintro e1 w1 ⟨v2, rfl, hp, hm, hf⟩; refine Hid.out ?_)
            refine Lib.hid ?_
            have hs1 := hf.size
            have hB1 := (hf.block _ ll (.inr hhi)).trans HBK.out
            have hC1 := (hf.block _ lp (.inr (by omega))).trans HR.out.cap
            obtain ⟨sa2, n2, c2, a2, fn2, rfl, hfn2⟩ := hp.shape
            have HFN2 := Lib.hid hfn2
            have HD := Lib.hid hd
            clear cc0 cc1 cc2 cc3 cc4 cc5 cc6 cz hfn2 hd cp0 cp1
            obtain ⟨cc0, cc1, cc2, cc3, cc4, cc5, cc6, cz, ll1⟩ := sev_of hB1
            have HS : Hid (∀ o, RunIn (fun k => D k ∨ k = w.heap.size) lo hi L r e l most.toNat M t w.heap.size w (ts.length + 1) l2 (ts ++ [M'.wd r.toNat b.at_.toNat]) (M'.done r b.op b.at_ b.a b.b) (pV (.slice sa2 n2 c2) a2 fn2 (.pointer none)) ((put7 w.heap.size (.slice sa2 n2 c2) (.int .i64 a2.op) (.int .i64 a2.at_) (.int .u64 (U a2.a)) (.int .u64 (U a2.b)) fn2 (.pointer none) w1).alloc o)) := by
              refine Lib.hid fun o => ⟨by omega, by simp, by simp at hkl ⊢; omega, ?_, ?_, ?_, ?_, ?_, ?_⟩
              · have h := HR.out.ras
                rw [hkt, show most.toNat - ts.length = (most.toNat - (ts.length + 1)) + 1 by omega] at h
                exact h.step HD.out
              · rw [← List.append_assoc]
                exact ((hp.fr (put7_fd _ _ _ _ _ _ _ (.inr rfl))).ext (ext_alloc o (ext_refl _))).h
              · exact (put7_mem _ _ _ _ _ _ _ hm hhi).alloc o
              · exact (put7_frNew _ _ _ _ _ _ _ (HR.out.fr.trans hf) (Nat.le_refl _)).alloc o
              · exact ⟨_, _, _, _, _, _, rfl, HFN2.out, (Below.heap_alloc _ _ _ (by rw [put7_size]; exact ll1)).trans (put7_block _ _ _ _ _ _ _ hB1)⟩
              · rw [Below.heap_alloc _ _ _ (by rw [put7_size]; exact heap_lt hC1), put7_other _ _ _ _ _ _ _ (by omega)]
                exact hC1
            clear hp hm hf hB1 hC1 HD
            unfold pV at HS ⊢
            rcases HFN2.out with rfl | ⟨g', caps', rfl⟩
            all_goals
              go_wp2
              exact ⟨⟨ts.length + 1, _, _, _, _, by go_num, HS.out _⟩, by simp [intOf] at hkl ⊢; omega⟩
          · have HF := Lib.hid (HR.out.ras.ends (D := D) (lo := lo) (hi := hi) (L := L) (t := t) (w := w) (runF_no hd _))
            have HD := Lib.hid hd
            clear hd
            rcases HFN'.out with rfl | ⟨g', caps', rfl⟩
            all_goals
              go_wp2_with (first
                | (go_at_call 24; refine (step_no _ b l2 (t ++ ts) _ r e _ HR.out.p HR.out.mem HD.out).mono ?_; rintro e1 w1 ⟨rfl, hx⟩; have HX := Lib.hid hx; clear hx; have cc0 := ext_cell HX.out cc0; have cc1 := ext_cell HX.out cc1; have cc2 := ext_cell HX.out cc2; have cc3 := ext_cell HX.out cc3; have cc4 := ext_cell HX.out cc4; have cc5 := ext_cell HX.out cc5; have cc6 := ext_cell HX.out cc6; have ll1 := Nat.lt_of_lt_of_le ll HX.out.size; unfold pV)
                | (go_at_call 22; refine (over_any _ (b :: l2) (t ++ ts) _ _ (HR.out.p.ext (ext_trans HX.out (ext_alloc _ (ext_refl _)))) (by simp at hkl ⊢; omega) (fun k hk => by have := hBt k hk; have := HX.out.size; simp; omega)).mono ?_; rintro e1 w1' ⟨rv, rfl, hx, hy1, hy2⟩; have HY1 := Lib.hid hy1; have HY2 := Lib.hid hy2; clear hy1 hy2; replace hx := ext_trans (ext_trans HX.out (ext_alloc _ (ext_refl _))) hx))
              exact bodyPost_ret (v := .tuple #[rv, .int .i64 (ts.length : Int), .bool false]) (by simp [results, Try.results13, go_sem]) rfl (HF.out _ _ ⟨rv, rfl, HR.out.mem.ext hx, HR.out.fr.ext hx, fun h => (HY1.out h).mono fun k hk => .inl hk, HY2.out⟩)
      · have hE : runF r e l' (most.toNat - k) M' = (M', [], l') := by
          rw [show most.toNat - k = 0 by omega]
          exact runF_zero r e l' M'
        have HF := Lib.hid (HR.out.ras.ends (D := D) (lo := lo) (hi := hi) (L := L) (t := t) (w := w) hE)
        clear hE
        rcases HFN'.out with rfl | ⟨g', caps', rfl⟩
        all_goals
          go_wp2_with (go_at_call 22; refine (over_any _ l' (t ++ ts) _ _ HR.out.p (by simp; omega) (fun k hk => by have := hBt k hk; omega)).mono ?_; rintro e1 w1 ⟨rv, rfl, hx, hy1, hy2⟩; have HY1 := Lib.hid hy1; have HY2 := Lib.hid hy2; clear hy1 hy2)
          refine bodyPost_ret (v := .tuple #[rv, .int .i64 (ts.length : Int), .bool l'.isEmpty]) (by simp [results, Try.results13, go_sem]) rfl (HF.out _ _ ⟨rv, rfl, HR.out.mem.ext hx, HR.out.fr.ext hx, fun h => (HY1.out h).mono fun k hk => .inl hk, HY2.out⟩)

end Go.Proofs.Ytmianpfomoghjaa
