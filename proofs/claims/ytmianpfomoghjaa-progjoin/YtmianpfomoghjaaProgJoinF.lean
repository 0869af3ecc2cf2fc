/-
  What the call of Join comes to. Conditions: those of each theorem.
-/
import Derived.Test.YtmianpfomoghjaaProgJd
namespace Go.Proofs.Ytmianpfomoghjaa
open Go Go.RowKit

set_option maxRecDepth 8000 in
set_option maxHeartbeats 2000000 in
theorem join1 (D : Nat → Prop) (x : BitVec 64) (a : Acc) (r : List Acc) (ps : List (List Acc × List (BitVec 64))) (rv : Value) (B : Nat) (w : World) (hA : accs ps = a :: r) (hR : Row D w ps rv) (hF : ∀ p ∈ ps, p.2 = []) (k1 : w.cell? ⟨B, 0, none⟩ = some rv) (hl : r.length ≤ 900) (hb : ∀ k, D k → k < w.heap.size) :
    Calls Try.prog 41 #[.int .u64 (U x), .pointer (some ⟨B, 0, none⟩)] w (RetPL D r [x] w) := by
  obtain ⟨rp, rfl⟩ := hR.ptr
  have HR := Lib.hid hR
  have l1 := cell_lt k1
  have hts : tsum ps = [] := by
    cases ps with
    | nil => rfl
    | cons p ps => exact hF p (by simp)
  have hfr : Fresh ps := by
    cases ps with
    | nil => trivial
    | cons p ps => exact fun q hq => hF q (by simp [hq])
  have HJ : Hid (∀ V, Ext w V → w.heap.size < V.heap.size → Calls Try.prog 42 #[.pointer none, .pointer rp] V (RetPL (fun k => D k ∨ k = w.heap.size) (a :: r) [] V)) := Lib.hid fun V hV hs => by
    have h := joined_all (accs ps).length (fun k => D k ∨ k = w.heap.size) [] ps (.pointer none) (.pointer rp) V (Nat.le_refl _) rfl ((HR.out.more fun k hk => ⟨fun h => h.resolve_right (by omega), .inl⟩).ext hV) hfr (by rw [hts, hA]; simp; omega) (fun k hk => by rcases hk with hk | rfl; have := hb k hk; omega; exact hs)
    rw [hA, hts] at h
    exact h
  clear hR hF hA hts hfr HR
  go_enter Try.func41, Try.ntmps41
  go_wp2_with (go_at_call 42; refine (HJ.out _ (ext_alloc _ (ext_refl w)) (by simp)).mono ?_; rintro e w1 ⟨v1, rfl, hx, hp⟩; refine Hid.out ?_)
  refine Lib.hid ?_
  have hbx := (hx.block w.heap.size (by simp)).trans (heap_at w _ _ rfl)
  have hE1 : Ext w w1 := ext_trans (ext_alloc _ (ext_refl w)) hx
  obtain ⟨g, caps, rfl, hg, hc⟩ := hp
  have HC := Lib.hid (hc (fun k => D k ∨ k = w.heap.size) (fun k _ => Iff.rfl) x w1 (FD.of_ext (ext_refl w1)) (fun k hk => by have := heap_lt hbx; rcases hk with hk | rfl; have := hb k hk; omega; exact this))
  have HE := Lib.hid hE1
  have HB := Lib.hid hbx
  clear hc hx hbx hE1 HJ
  unfold pV
  go_wp2_with (refine HC.out.mono ?_; rintro e2 w2 ⟨v', rfl, hx, hp⟩; refine Hid.out ?_)
  refine Lib.hid ?_
  obtain ⟨sa2, n2', c2, a2, fn2, rfl, hfn2⟩ := hp.shape
  have hbx := (hx.block w.heap.size (heap_lt HB.out)).trans HB.out
  obtain ⟨cc0, cc1, cc2, cc3, cc4, cc5, cc6, cz, ll⟩ := sev_of hbx
  have hX := put7_ext (b := w.heap.size) (.slice sa2 n2' c2) (.int .i64 a2.op) (.int .i64 a2.at_) (.int .u64 (U a2.a)) (.int .u64 (U a2.b)) fn2 (.pointer none) (ext_trans HE.out hx) (Nat.le_refl _)
  have hB := put7_block (.slice sa2 n2' c2) (.int .i64 a2.op) (.int .i64 a2.at_) (.int .u64 (U a2.a)) (.int .u64 (U a2.b)) fn2 (.pointer none) hbx
  have hP := PL.mono (D := D) (fun k hk => .inl hk) (hp.fr (put7_fd (w := w2) (b := w.heap.size) (.slice sa2 n2' c2) (.int .i64 a2.op) (.int .i64 a2.at_) (.int .u64 (U a2.a)) (.int .u64 (U a2.b)) fn2 (.pointer none) (.inr rfl)))
  rw [put7] at hB hX hP
  have HZ := Lib.hid (And.intro hX (And.intro hB hP))
  have hsf := store_fn hfn2
  clear hB hX hP hp hbx hx hfn2
  unfold pV at HZ ⊢
  go_wp2
  clear cc0 cc1 cc2 cc3 cc4 cc5 cc6 cz ll
  obtain ⟨hX, hB, hP⟩ := HZ.out
  clear HZ
  generalize (World.setCell _ (⟨w.heap.size, 6, none⟩ : Addr) _) = Z at hB hX hP ⊢
  obtain ⟨c0, c1, c2, c3, c4, c5, c6, cz, ll⟩ := sev_of hB
  exact bodyPost_ret (by simp only [results, Try.results41, go_sem]; simp [go_sem, c0, c1, c2, c3, c4, c5, c6]) rfl ⟨_, rfl, hX, hP⟩

def RetPH (D : Nat → Prop) (l : List Acc) (t : List (BitVec 64)) (w : World) (e : Ending) (w' : World) : Prop := ∃ v, e = .returned v ∧ Ext w w' ∧ PH D l t v w'

theorem join_end (D : Nat → Prop) (w Y : World) (S : Nat) (hS : Y.heap.size = S) (l k r : List Acc) (A : Acc) (sp : Option Addr) (np cp : Nat) (ap : Acc) (fp : Value) (sq : Option Addr) (nq cq : Nat) (aq : Acc) (fq : Value) (hE : Ext w Y) (hP : PL D l [] (pV (.slice sp np cp) ap fp (.pointer none)) w) (hQ : PL D k [] (pV (.slice sq nq cq) aq fq (.pointer none)) w)
    (hfp : fp = .nilFunc ∨ ∃ g caps, fp = .func (.func g) #[] caps) (hfq : fq = .nilFunc ∨ ∃ g caps, fq = .func (.func g) #[] caps) (hA : l ++ k = A :: r) (hl : r.length ≤ 900) (hb : ∀ k, D k → k < w.heap.size) :
    PH D (A :: r) [] (pV (.slice none 0 0) A (.func (.func 41) #[] #[.pointer (some ⟨S + 1 + 1, 0, none⟩)]) (.pointer (some ⟨S + 1, 0, none⟩))) (((Y.alloc (.cells #[.slice sq nq cq, .int .i64 aq.op, .int .i64 aq.at_, .int .u64 (U aq.a), .int .u64 (U aq.b), fq, .pointer none, .pointer none] 109)).alloc (.cells #[.slice sp np cp, .int .i64 ap.op, .int .i64 ap.at_, .int .u64 (U ap.a), .int .u64 (U ap.b), fp, .pointer none, .pointer (some ⟨S, 0, none⟩)] 109)).alloc (.cells #[.pointer (some ⟨S + 1, 0, none⟩)] 44)) := by
  have hEY : Ext Y (((Y.alloc (.cells #[.slice sq nq cq, .int .i64 aq.op, .int .i64 aq.at_, .int .u64 (U aq.a), .int .u64 (U aq.b), fq, .pointer none, .pointer none] 109)).alloc (.cells #[.slice sp np cp, .int .i64 ap.op, .int .i64 ap.at_, .int .u64 (U ap.a), .int .u64 (U ap.b), fp, .pointer none, .pointer (some ⟨S, 0, none⟩)] 109)).alloc (.cells #[.pointer (some ⟨S + 1, 0, none⟩)] 44)) := ext_alloc _ (ext_alloc _ (ext_alloc _ (ext_refl Y)))
  have hwS : w.heap.size ≤ S := by rw [← hS]; exact hE.size
  have h1 : (((Y.alloc (.cells #[.slice sq nq cq, .int .i64 aq.op, .int .i64 aq.at_, .int .u64 (U aq.a), .int .u64 (U aq.b), fq, .pointer none, .pointer none] 109)).alloc (.cells #[.slice sp np cp, .int .i64 ap.op, .int .i64 ap.at_, .int .u64 (U ap.a), .int .u64 (U ap.b), fp, .pointer none, .pointer (some ⟨S, 0, none⟩)] 109)).alloc (.cells #[.pointer (some ⟨S + 1, 0, none⟩)] 44)).heap[S]? = some (.cells #[.slice sq nq cq, .int .i64 aq.op, .int .i64 aq.at_, .int .u64 (U aq.a), .int .u64 (U aq.b), fq, .pointer none, .pointer none] 109) := (Below.heap_alloc _ _ _ (by simp; omega)).trans ((Below.heap_alloc _ _ _ (by simp; omega)).trans (heap_at _ _ _ hS.symm))
  have h2 : (((Y.alloc (.cells #[.slice sq nq cq, .int .i64 aq.op, .int .i64 aq.at_, .int .u64 (U aq.a), .int .u64 (U aq.b), fq, .pointer none, .pointer none] 109)).alloc (.cells #[.slice sp np cp, .int .i64 ap.op, .int .i64 ap.at_, .int .u64 (U ap.a), .int .u64 (U ap.b), fp, .pointer none, .pointer (some ⟨S, 0, none⟩)] 109)).alloc (.cells #[.pointer (some ⟨S + 1, 0, none⟩)] 44)).heap[S + 1]? = some (.cells #[.slice sp np cp, .int .i64 ap.op, .int .i64 ap.at_, .int .u64 (U ap.a), .int .u64 (U ap.b), fp, .pointer none, .pointer (some ⟨S, 0, none⟩)] 109) := (Below.heap_alloc _ _ _ (by simp; omega)).trans (heap_at _ _ _ (by simp; omega))
  have h3 : (((Y.alloc (.cells #[.slice sq nq cq, .int .i64 aq.op, .int .i64 aq.at_, .int .u64 (U aq.a), .int .u64 (U aq.b), fq, .pointer none, .pointer none] 109)).alloc (.cells #[.slice sp np cp, .int .i64 ap.op, .int .i64 ap.at_, .int .u64 (U ap.a), .int .u64 (U ap.b), fp, .pointer none, .pointer (some ⟨S, 0, none⟩)] 109)).alloc (.cells #[.pointer (some ⟨S + 1, 0, none⟩)] 44)).heap[S + 1 + 1]? = some (.cells #[.pointer (some ⟨S + 1, 0, none⟩)] 44) := heap_at _ _ _ (by simp; omega)
  have hEZ := ext_trans hE hEY
  generalize (((Y.alloc (.cells #[.slice sq nq cq, .int .i64 aq.op, .int .i64 aq.at_, .int .u64 (U aq.a), .int .u64 (U aq.b), fq, .pointer none, .pointer none] 109)).alloc (.cells #[.slice sp np cp, .int .i64 ap.op, .int .i64 ap.at_, .int .u64 (U ap.a), .int .u64 (U ap.b), fp, .pointer none, .pointer (some ⟨S, 0, none⟩)] 109)).alloc (.cells #[.pointer (some ⟨S + 1, 0, none⟩)] 44)) = Z at hEY h1 h2 h3 hEZ ⊢
  have nd : ∀ j, S ≤ j → ¬ D j := fun j h1 h2 => by have := hb j h2; omega
  have hR : Row D Z [(l, []), (k, [])] (.pointer (some ⟨S + 1, 0, none⟩)) :=
    ⟨S + 1, sp, np, cp, ap, fp, _, rfl, nd _ (by omega), h2, hP.ext hEZ, hfp, Nat.le_refl _, S, sq, nq, cq, aq, fq, _, rfl, nd _ (Nat.le_refl _), h1, hQ.ext hEZ, hfq, Nat.zero_le _, rfl⟩
  refine ⟨_, _, _, rfl, enters_of Try.func41 (by kernel_rfl) rfl, fun E hEE x U' hU hs => ?_⟩
  have hlt3 := heap_lt h3
  have k1 := cell_at (o := 0) ((hU.block _ hlt3 (fun h => nd _ (by omega) ((hEE _ hlt3).1 h))).trans h3) rfl
  refine (join1 E x A r [(l, []), (k, [])] _ (S + 1 + 1) U' (by rw [← hA]; simp [accs]) ((hR.more hEE).fr hU) (fun p hp => by simp at hp; rcases hp with rfl | rfl <;> rfl) k1 hl hs).mono fun en u hu => ?_
  obtain ⟨v', e1, e2, e3⟩ := hu
  exact ⟨v', e1, e2, e3⟩

set_option maxRecDepth 8000 in
set_option maxHeartbeats 2000000 in
theorem join_a (D : Nat → Prop) (a : Acc) (l k : List Acc) (pv qv : Value) (w : World) (hP : PL D (a :: l) [] pv w) (hQ : PL D k [] qv w) (hl : l.length + k.length ≤ 900) (hb : ∀ k, D k → k < w.heap.size) :
    Calls Try.prog 20 #[pv, qv] w (RetPH D (a :: (l ++ k)) [] w) := by
  obtain ⟨g1, caps1, rfl, _⟩ := id hP
  obtain ⟨sq, nq, cq, aq, fq, rfl, hfq⟩ := hQ.shape
  have HP := Lib.hid hP
  have HQ := Lib.hid hQ
  have HFQ := Lib.hid hfq
  have hsf := store_fn hfq
  clear hP hQ hfq
  unfold pV
  go_enter Try.func20, Try.ntmps20
  go_wp2_with (go_at_call 21; refine Hid.out ?_)
  refine Lib.hid ?_
  have hE0 : Ext w (((w.alloc (.cells #[.slice none 0 0, .int .i64 a.op, .int .i64 a.at_, .int .u64 (U a.a), .int .u64 (U a.b), .func (.func g1) #[] caps1, .pointer none] 46)).alloc (.cells #[.slice sq nq cq, .int .i64 aq.op, .int .i64 aq.at_, .int .u64 (U aq.a), .int .u64 (U aq.b), fq, .pointer none] 46)).alloc (.cells #[.slice none 0 0, .int .i64 0, .int .i64 0, .int .u64 0, .int .u64 0, .nilFunc, .pointer none] 46)) := ext_alloc _ (ext_alloc _ (ext_alloc _ (ext_refl w)))
  have hb1 : (((w.alloc (.cells #[.slice none 0 0, .int .i64 a.op, .int .i64 a.at_, .int .u64 (U a.a), .int .u64 (U a.b), .func (.func g1) #[] caps1, .pointer none] 46)).alloc (.cells #[.slice sq nq cq, .int .i64 aq.op, .int .i64 aq.at_, .int .u64 (U aq.a), .int .u64 (U aq.b), fq, .pointer none] 46)).alloc (.cells #[.slice none 0 0, .int .i64 0, .int .i64 0, .int .u64 0, .int .u64 0, .nilFunc, .pointer none] 46)).heap[w.heap.size]? = some (.cells #[.slice none 0 0, .int .i64 a.op, .int .i64 a.at_, .int .u64 (U a.a), .int .u64 (U a.b), .func (.func g1) #[] caps1, .pointer none] 46) := (Below.heap_alloc _ _ _ (by simp; omega)).trans ((Below.heap_alloc _ _ _ (by simp)).trans (heap_at w _ _ rfl))
  have hb2 : (((w.alloc (.cells #[.slice none 0 0, .int .i64 a.op, .int .i64 a.at_, .int .u64 (U a.a), .int .u64 (U a.b), .func (.func g1) #[] caps1, .pointer none] 46)).alloc (.cells #[.slice sq nq cq, .int .i64 aq.op, .int .i64 aq.at_, .int .u64 (U aq.a), .int .u64 (U aq.b), fq, .pointer none] 46)).alloc (.cells #[.slice none 0 0, .int .i64 0, .int .i64 0, .int .u64 0, .int .u64 0, .nilFunc, .pointer none] 46)).heap[w.heap.size + 1]? = some (.cells #[.slice sq nq cq, .int .i64 aq.op, .int .i64 aq.at_, .int .u64 (U aq.a), .int .u64 (U aq.b), fq, .pointer none] 46) := (Below.heap_alloc _ _ _ (by simp)).trans (heap_at _ _ _ (by simp))
  have hb3 : (((w.alloc (.cells #[.slice none 0 0, .int .i64 a.op, .int .i64 a.at_, .int .u64 (U a.a), .int .u64 (U a.b), .func (.func g1) #[] caps1, .pointer none] 46)).alloc (.cells #[.slice sq nq cq, .int .i64 aq.op, .int .i64 aq.at_, .int .u64 (U aq.a), .int .u64 (U aq.b), fq, .pointer none] 46)).alloc (.cells #[.slice none 0 0, .int .i64 0, .int .i64 0, .int .u64 0, .int .u64 0, .nilFunc, .pointer none] 46)).heap[w.heap.size + 1 + 1]? = some (.cells #[.slice none 0 0, .int .i64 0, .int .i64 0, .int .u64 0, .int .u64 0, .nilFunc, .pointer none] 46) := heap_at _ _ _ (by simp)
  generalize (((w.alloc (.cells #[.slice none 0 0, .int .i64 a.op, .int .i64 a.at_, .int .u64 (U a.a), .int .u64 (U a.b), .func (.func g1) #[] caps1, .pointer none] 46)).alloc (.cells #[.slice sq nq cq, .int .i64 aq.op, .int .i64 aq.at_, .int .u64 (U aq.a), .int .u64 (U aq.b), fq, .pointer none] 46)).alloc (.cells #[.slice none 0 0, .int .i64 0, .int .i64 0, .int .u64 0, .int .u64 0, .nilFunc, .pointer none] 46)) = V0 at hE0 hb1 hb2 hb3 ⊢
  refine (access_yes D a l [] _ V0 (HP.out.ext hE0).h).mono ?_
  rintro e w1 ⟨rfl, hx⟩
  have hE1 := ext_trans hE0 hx
  replace hb1 := (hx.block _ (heap_lt hb1)).trans hb1
  replace hb2 := (hx.block _ (heap_lt hb2)).trans hb2
  replace hb3 := (hx.block _ (heap_lt hb3)).trans hb3
  obtain ⟨p0, p1, p2, p3, p4, p5, p6, pz, pl⟩ := sev_of hb1
  obtain ⟨q0, q1, q2, q3, q4, q5, q6, qz, ql⟩ := sev_of hb2
  obtain ⟨c0, c1, c2, c3, c4, c5, c6, cz, ll⟩ := sev_of hb3
  have HE1 := Lib.hid hE1
  have HB3 := Lib.hid hb3
  clear hx hE0 hE1 hb1 hb2 hb3
  unfold accV
  have b1 : w.heap.size < w1.heap.size + 1 := by omega
  have b2 : w.heap.size + 1 < w1.heap.size + 1 := by omega
  have b3 : w.heap.size + 1 + 1 < w1.heap.size + 1 := by omega
  have b4 : w.heap.size + 1 + 1 < w1.heap.size + 1 + 1 := by omega
  have b5 : w.heap.size + 1 + 1 < w1.heap.size + 1 + 1 + 1 := by omega
  have b6 : w.heap.size + 1 + 1 < w1.heap.size + 1 + 1 + 1 + 1 := by omega
  have hX := put7_ext (b := w.heap.size + 1 + 1) (.slice none 0 0) (.int .i64 a.op) (.int .i64 a.at_) (.int .u64 (U a.a)) (.int .u64 (U a.b)) (.func (.func 41) #[] #[.pointer (some ⟨w1.heap.size + 1 + 1 + 1, 0, none⟩)]) (.pointer (some ⟨w1.heap.size + 1 + 1, 0, none⟩)) HE1.out (by omega)
  have hBk := put7_block (.slice none 0 0) (.int .i64 a.op) (.int .i64 a.at_) (.int .u64 (U a.a)) (.int .u64 (U a.b)) (.func (.func 41) #[] #[.pointer (some ⟨w1.heap.size + 1 + 1 + 1, 0, none⟩)]) (.pointer (some ⟨w1.heap.size + 1 + 1, 0, none⟩)) HB3.out
  have hZs : (put7 (w.heap.size + 1 + 1) (.slice none 0 0) (.int .i64 a.op) (.int .i64 a.at_) (.int .u64 (U a.a)) (.int .u64 (U a.b)) (.func (.func 41) #[] #[.pointer (some ⟨w1.heap.size + 1 + 1 + 1, 0, none⟩)]) (.pointer (some ⟨w1.heap.size + 1 + 1, 0, none⟩)) w1).heap.size = w1.heap.size := put7_size (.slice none 0 0) (.int .i64 a.op) (.int .i64 a.at_) (.int .u64 (U a.a)) (.int .u64 (U a.b)) (.func (.func 41) #[] #[.pointer (some ⟨w1.heap.size + 1 + 1 + 1, 0, none⟩)]) (.pointer (some ⟨w1.heap.size + 1 + 1, 0, none⟩))
  rw [put7] at hX hBk hZs
  have HZ := Lib.hid (And.intro hX (And.intro hBk hZs))
  clear hX hBk hZs
  go_wp2
  clear p0 p1 p2 p3 p4 p5 p6 pz q0 q1 q2 q3 q4 q5 q6 qz c0 c1 c2 c3 c4 c5 c6 cz
  obtain ⟨hX, hBk, hZs⟩ := HZ.out
  clear HZ
  generalize (World.setCell _ (⟨w.heap.size + 1 + 1, 6, none⟩ : Addr) _) = Y0 at hX hBk hZs ⊢
  have hX1 := ext_alloc (.cells #[.int .i64 a.op, .int .i64 a.at_, .int .u64 (U a.a), .int .u64 (U a.b)] 42) hX
  have hB1 := (Below.heap_alloc Y0 (.cells #[.int .i64 a.op, .int .i64 a.at_, .int .u64 (U a.a), .int .u64 (U a.b)] 42) _ (heap_lt hBk)).trans hBk
  have hS1 : (Y0.alloc (.cells #[.int .i64 a.op, .int .i64 a.at_, .int .u64 (U a.a), .int .u64 (U a.b)] 42)).heap.size = w1.heap.size + 1 := by simp [hZs]
  generalize Y0.alloc (.cells #[.int .i64 a.op, .int .i64 a.at_, .int .u64 (U a.a), .int .u64 (U a.b)] 42) = Y at hX1 hB1 hS1 ⊢
  have hEnd := join_end D w Y (w1.heap.size + 1) hS1 (a :: l) k (l ++ k) a none 0 0 a (.func (.func g1) #[] caps1) sq nq cq aq fq hX1 HP.out HQ.out (.inr ⟨_, _, rfl⟩) HFQ.out rfl (by simp; omega) hb
  generalize hZ : World.alloc _ (.cells #[.pointer (some ⟨w1.heap.size + 1 + 1, 0, none⟩)] 44) = Z at hEnd ⊢
  have hEY : Ext Y Z := by rw [← hZ]; exact ext_alloc _ (ext_alloc _ (ext_alloc _ (ext_refl Y)))
  obtain ⟨c0, c1, c2, c3, c4, c5, c6, cz, lc⟩ := sev_of ((hEY.block _ (heap_lt hB1)).trans hB1)
  exact bodyPost_ret (by simp only [results, Try.results20, go_sem]; simp [go_sem, pV, c0, c1, c2, c3, c4, c5, c6]) rfl ⟨_, rfl, ext_trans hX1 hEY, hEnd⟩

set_option maxRecDepth 8000 in
set_option maxHeartbeats 2000000 in
theorem join_b (D : Nat → Prop) (a : Acc) (k : List Acc) (pv qv : Value) (w : World) (hP : PL D [] [] pv w) (hQ : PL D (a :: k) [] qv w) (hl : k.length ≤ 900) (hb : ∀ k, D k → k < w.heap.size) :
    Calls Try.prog 20 #[pv, qv] w (RetPH D (a :: k) [] w) := by
  obtain ⟨rv, e1, hrv⟩ := id hP
  obtain ⟨ra, rc, rfl, _⟩ := hrv
  subst e1
  obtain ⟨g1, caps1, rfl, _⟩ := id hQ
  have HP : Hid (PL D [] [] (pV (.slice ra 0 rc) accZ .nilFunc (.pointer none)) w) := Lib.hid hP
  have HQ := Lib.hid hQ
  clear hP hQ
  simp only [List.length_nil]
  unfold pV
  go_enter Try.func20, Try.ntmps20
  go_wp2_with (go_at_call 21; refine Hid.out ?_)
  refine Lib.hid ?_
  have hE0 : Ext w (((w.alloc (.cells #[.slice ra 0 rc, .int .i64 accZ.op, .int .i64 accZ.at_, .int .u64 (U accZ.a), .int .u64 (U accZ.b), .nilFunc, .pointer none] 46)).alloc (.cells #[.slice none 0 0, .int .i64 a.op, .int .i64 a.at_, .int .u64 (U a.a), .int .u64 (U a.b), .func (.func g1) #[] caps1, .pointer none] 46)).alloc (.cells #[.slice none 0 0, .int .i64 0, .int .i64 0, .int .u64 0, .int .u64 0, .nilFunc, .pointer none] 46)) := ext_alloc _ (ext_alloc _ (ext_alloc _ (ext_refl w)))
  have hb1 : (((w.alloc (.cells #[.slice ra 0 rc, .int .i64 accZ.op, .int .i64 accZ.at_, .int .u64 (U accZ.a), .int .u64 (U accZ.b), .nilFunc, .pointer none] 46)).alloc (.cells #[.slice none 0 0, .int .i64 a.op, .int .i64 a.at_, .int .u64 (U a.a), .int .u64 (U a.b), .func (.func g1) #[] caps1, .pointer none] 46)).alloc (.cells #[.slice none 0 0, .int .i64 0, .int .i64 0, .int .u64 0, .int .u64 0, .nilFunc, .pointer none] 46)).heap[w.heap.size]? = some (.cells #[.slice ra 0 rc, .int .i64 accZ.op, .int .i64 accZ.at_, .int .u64 (U accZ.a), .int .u64 (U accZ.b), .nilFunc, .pointer none] 46) := (Below.heap_alloc _ _ _ (by simp; omega)).trans ((Below.heap_alloc _ _ _ (by simp)).trans (heap_at w _ _ rfl))
  have hb2 : (((w.alloc (.cells #[.slice ra 0 rc, .int .i64 accZ.op, .int .i64 accZ.at_, .int .u64 (U accZ.a), .int .u64 (U accZ.b), .nilFunc, .pointer none] 46)).alloc (.cells #[.slice none 0 0, .int .i64 a.op, .int .i64 a.at_, .int .u64 (U a.a), .int .u64 (U a.b), .func (.func g1) #[] caps1, .pointer none] 46)).alloc (.cells #[.slice none 0 0, .int .i64 0, .int .i64 0, .int .u64 0, .int .u64 0, .nilFunc, .pointer none] 46)).heap[w.heap.size + 1]? = some (.cells #[.slice none 0 0, .int .i64 a.op, .int .i64 a.at_, .int .u64 (U a.a), .int .u64 (U a.b), .func (.func g1) #[] caps1, .pointer none] 46) := (Below.heap_alloc _ _ _ (by simp)).trans (heap_at _ _ _ (by simp))
  have hb3 : (((w.alloc (.cells #[.slice ra 0 rc, .int .i64 accZ.op, .int .i64 accZ.at_, .int .u64 (U accZ.a), .int .u64 (U accZ.b), .nilFunc, .pointer none] 46)).alloc (.cells #[.slice none 0 0, .int .i64 a.op, .int .i64 a.at_, .int .u64 (U a.a), .int .u64 (U a.b), .func (.func g1) #[] caps1, .pointer none] 46)).alloc (.cells #[.slice none 0 0, .int .i64 0, .int .i64 0, .int .u64 0, .int .u64 0, .nilFunc, .pointer none] 46)).heap[w.heap.size + 1 + 1]? = some (.cells #[.slice none 0 0, .int .i64 0, .int .i64 0, .int .u64 0, .int .u64 0, .nilFunc, .pointer none] 46) := heap_at _ _ _ (by simp)
  generalize (((w.alloc (.cells #[.slice ra 0 rc, .int .i64 accZ.op, .int .i64 accZ.at_, .int .u64 (U accZ.a), .int .u64 (U accZ.b), .nilFunc, .pointer none] 46)).alloc (.cells #[.slice none 0 0, .int .i64 a.op, .int .i64 a.at_, .int .u64 (U a.a), .int .u64 (U a.b), .func (.func g1) #[] caps1, .pointer none] 46)).alloc (.cells #[.slice none 0 0, .int .i64 0, .int .i64 0, .int .u64 0, .int .u64 0, .nilFunc, .pointer none] 46)) = V0 at hE0 hb1 hb2 hb3 ⊢
  refine (access_no D [] _ V0 (HP.out.ext hE0).h).mono ?_
  rintro e w1 ⟨rfl, hx⟩
  have hE1 := ext_trans hE0 hx
  replace hb1 := (hx.block _ (heap_lt hb1)).trans hb1
  replace hb2 := (hx.block _ (heap_lt hb2)).trans hb2
  replace hb3 := (hx.block _ (heap_lt hb3)).trans hb3
  obtain ⟨q0, q1, q2, q3, q4, q5, q6, qz, ql⟩ := sev_of hb2
  have HB := Lib.hid (And.intro hE1 (And.intro hb1 (And.intro hb2 hb3)))
  clear hx hE0 hE1 hb1 hb2 hb3
  unfold accV
  go_wp2_with (go_at_call 21; refine Hid.out ?_)
  refine Lib.hid ?_
  obtain ⟨hE1, hb1, hb2, hb3⟩ := HB.out
  have hXa := ext_alloc (.cells #[.int .i64 accZ.op, .int .i64 accZ.at_, .int .u64 (U accZ.a), .int .u64 (U accZ.b)] 42) (ext_refl w1)
  have hba := heap_at w1 (.cells #[.int .i64 accZ.op, .int .i64 accZ.at_, .int .u64 (U accZ.a), .int .u64 (U accZ.b)] 42) w1.heap.size rfl
  generalize w1.alloc (.cells #[.int .i64 accZ.op, .int .i64 accZ.at_, .int .u64 (U accZ.a), .int .u64 (U accZ.b)] 42) = V2 at hXa hba ⊢
  refine (access_yes D a k [] _ V2 (HQ.out.ext (ext_trans hE1 hXa)).h).mono ?_
  rintro e w2 ⟨rfl, hx⟩
  have hE2 := ext_trans (ext_trans hE1 hXa) hx
  have hEx := ext_trans hXa hx
  replace hba := (hx.block _ (heap_lt hba)).trans hba
  replace hb1 := (hEx.block _ (heap_lt hb1)).trans hb1
  replace hb2 := (hEx.block _ (heap_lt hb2)).trans hb2
  replace hb3 := (hEx.block _ (heap_lt hb3)).trans hb3
  clear q0 q1 q2 q3 q4 q5 q6 qz HB
  obtain ⟨p0, p1, p2, p3, p4, p5, p6, pz, pl⟩ := sev_of hb1
  obtain ⟨q0, q1, q2, q3, q4, q5, q6, qz, ql⟩ := sev_of hb2
  obtain ⟨c0, c1, c2, c3, c4, c5, c6, cz, ll⟩ := sev_of hb3
  have a0 := cell_at (o := 0) hba rfl
  have a1 := cell_at (o := 1) hba rfl
  have a2 := cell_at (o := 2) hba rfl
  have a3 := cell_at (o := 3) hba rfl
  have az : ∀ o, w2.frozen? ⟨w1.heap.size, o, none⟩ = false := fun o => free_at hba
  have la := heap_lt hba
  have hw1 := hE1.size
  have hne : w.heap.size + 1 + 1 ≠ w1.heap.size := fun e => by rw [e, hba] at hb3; simp at hb3
  have hne1 : w.heap.size ≠ w1.heap.size := fun e => by rw [e, hba] at hb1; simp at hb1
  have hne2 : w.heap.size + 1 ≠ w1.heap.size := fun e => by rw [e, hba] at hb2; simp at hb2
  have hX4 : Ext w ((((w2.setCell ⟨w1.heap.size, 0, none⟩ (.int .i64 a.op)).setCell ⟨w1.heap.size, 1, none⟩ (.int .i64 a.at_)).setCell ⟨w1.heap.size, 2, none⟩ (.int .u64 (U a.a))).setCell ⟨w1.heap.size, 3, none⟩ (.int .u64 (U a.b))) := ext_set _ hw1 (ext_set _ hw1 (ext_set _ hw1 (ext_set _ hw1 hE2)))
  have hb4 : ((((w2.setCell ⟨w1.heap.size, 0, none⟩ (.int .i64 a.op)).setCell ⟨w1.heap.size, 1, none⟩ (.int .i64 a.at_)).setCell ⟨w1.heap.size, 2, none⟩ (.int .u64 (U a.a))).setCell ⟨w1.heap.size, 3, none⟩ (.int .u64 (U a.b))).heap[w.heap.size + 1 + 1]? = some (.cells #[.slice none 0 0, .int .i64 0, .int .i64 0, .int .u64 0, .int .u64 0, .nilFunc, .pointer none] 46) := by rw [set_other _ hne, set_other _ hne, set_other _ hne, set_other _ hne]; exact hb3
  have hs4 : ((((w2.setCell ⟨w1.heap.size, 0, none⟩ (.int .i64 a.op)).setCell ⟨w1.heap.size, 1, none⟩ (.int .i64 a.at_)).setCell ⟨w1.heap.size, 2, none⟩ (.int .u64 (U a.a))).setCell ⟨w1.heap.size, 3, none⟩ (.int .u64 (U a.b))).heap.size = w2.heap.size := by rw [set_size, set_size, set_size, set_size]
  have hX := put7_ext (b := w.heap.size + 1 + 1) (.slice none 0 0) (.int .i64 a.op) (.int .i64 a.at_) (.int .u64 (U a.a)) (.int .u64 (U a.b)) (.func (.func 41) #[] #[.pointer (some ⟨w2.heap.size + 1 + 1, 0, none⟩)]) (.pointer (some ⟨w2.heap.size + 1, 0, none⟩)) hX4 (by omega)
  have hBk := put7_block (.slice none 0 0) (.int .i64 a.op) (.int .i64 a.at_) (.int .u64 (U a.a)) (.int .u64 (U a.b)) (.func (.func 41) #[] #[.pointer (some ⟨w2.heap.size + 1 + 1, 0, none⟩)]) (.pointer (some ⟨w2.heap.size + 1, 0, none⟩)) hb4
  have hZs : (put7 (w.heap.size + 1 + 1) (.slice none 0 0) (.int .i64 a.op) (.int .i64 a.at_) (.int .u64 (U a.a)) (.int .u64 (U a.b)) (.func (.func 41) #[] #[.pointer (some ⟨w2.heap.size + 1 + 1, 0, none⟩)]) (.pointer (some ⟨w2.heap.size + 1, 0, none⟩)) ((((w2.setCell ⟨w1.heap.size, 0, none⟩ (.int .i64 a.op)).setCell ⟨w1.heap.size, 1, none⟩ (.int .i64 a.at_)).setCell ⟨w1.heap.size, 2, none⟩ (.int .u64 (U a.a))).setCell ⟨w1.heap.size, 3, none⟩ (.int .u64 (U a.b)))).heap.size = w2.heap.size := (put7_size (.slice none 0 0) (.int .i64 a.op) (.int .i64 a.at_) (.int .u64 (U a.a)) (.int .u64 (U a.b)) (.func (.func 41) #[] #[.pointer (some ⟨w2.heap.size + 1 + 1, 0, none⟩)]) (.pointer (some ⟨w2.heap.size + 1, 0, none⟩))).trans hs4
  rw [put7] at hX hBk hZs
  have HZ := Lib.hid (And.intro hX (And.intro hBk hZs))
  clear hX hBk hZs hX4 hb4 hs4 hE1 hE2 hEx hXa hb1 hb2 hb3 hba hx
  have b1 : w.heap.size < w2.heap.size + 1 := by omega
  have b4 : w.heap.size + 1 + 1 < w2.heap.size + 1 := by omega
  have b5 : w.heap.size + 1 + 1 < w2.heap.size + 1 + 1 := by omega
  have b6 : w.heap.size + 1 + 1 < w2.heap.size + 1 + 1 + 1 := by omega
  have b7 : w1.heap.size < w2.heap.size + 1 := by omega
  have b8 : w1.heap.size < w2.heap.size + 1 + 1 := by omega
  have b9 : w1.heap.size < w2.heap.size + 1 + 1 + 1 := by omega
  unfold accV
  go_wp2
  clear p0 p1 p2 p3 p4 p5 p6 pz q0 q1 q2 q3 q4 q5 q6 qz c0 c1 c2 c3 c4 c5 c6 cz a0 a1 a2 a3 az
  obtain ⟨hX1, hB1, hS1⟩ := HZ.out
  clear HZ
  generalize (World.setCell _ (⟨w.heap.size + 1 + 1, 6, none⟩ : Addr) _) = Y at hX1 hB1 hS1 ⊢
  have hEnd := join_end D w Y w2.heap.size hS1 [] (a :: k) k a ra 0 rc accZ .nilFunc none 0 0 a (.func (.func g1) #[] caps1) hX1 HP.out HQ.out (.inl rfl) (.inr ⟨_, _, rfl⟩) rfl hl hb
  generalize hZ : World.alloc _ (.cells #[.pointer (some ⟨w2.heap.size + 1, 0, none⟩)] 44) = Z at hEnd ⊢
  have hEY : Ext Y Z := by rw [← hZ]; exact ext_alloc _ (ext_alloc _ (ext_alloc _ (ext_refl Y)))
  obtain ⟨c0, c1, c2, c3, c4, c5, c6, cz, lc⟩ := sev_of ((hEY.block _ (heap_lt hB1)).trans hB1)
  exact bodyPost_ret (by simp only [results, Try.results20, go_sem]; simp [go_sem, pV, c0, c1, c2, c3, c4, c5, c6]) rfl ⟨_, rfl, ext_trans hX1 hEY, hEnd⟩

end Go.Proofs.Ytmianpfomoghjaa
