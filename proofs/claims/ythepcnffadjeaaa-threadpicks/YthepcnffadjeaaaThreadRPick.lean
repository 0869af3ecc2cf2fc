/-
  What the reference's Pick comes to. Conditions: those of each theorem.
-/
import Derived.Test.YthepcnffadjeaaaThreadRpk
import Derived.Test.YthepcnffadjeaaaFork
import Derived.Deep.Cut
namespace Go.Proofs.Ythepcnffadjeaaa
open Go Go.RowKit

section
variable {D : Nat → Prop} {S : WS} {M : MS} {R : RL} {vb vl vt : Value} {w wr : World}
/-- The boxes are made. -/
theorem rp_start (h : VSt D S vb vl vt w wr) (hR : RefIn (fun b => ¬ D b) R M wr) (hw : Ext w wr) (hb : ∀ k, D k → k < wr.heap.size) (r : Int) (e : BitVec 64) :
    RpIn D wr.heap.size S M R vb vl vt r e w wr ((((((wr.alloc (.cells #[.int .i64 (S.n : Int), vb, .bool S.busy, vl, vt] 42)).alloc (.cells #[.slice R.wa M.n R.wc, .slice R.ea M.n R.ec, .int .i64 M.ct] 33)).alloc (.cells #[.int .i64 r, .int .u64 (U e)] 45)).alloc (.cells #[.int .i64 0, .slice none 0 0, .bool false, .slice none 0 0, .slice none 0 0] 42)).alloc (.cells #[.slice none 0 0, .slice none 0 0, .int .i64 0] 33)).alloc (.cells #[.int .i64 0, .slice none 0 0] 59)) := by
  have hx : Ext wr ((((((wr.alloc (.cells #[.int .i64 (S.n : Int), vb, .bool S.busy, vl, vt] 42)).alloc (.cells #[.slice R.wa M.n R.wc, .slice R.ea M.n R.ec, .int .i64 M.ct] 33)).alloc (.cells #[.int .i64 r, .int .u64 (U e)] 45)).alloc (.cells #[.int .i64 0, .slice none 0 0, .bool false, .slice none 0 0, .slice none 0 0] 42)).alloc (.cells #[.slice none 0 0, .slice none 0 0, .int .i64 0] 33)).alloc (.cells #[.int .i64 0, .slice none 0 0] 59)) := ext_alloc _ (ext_alloc _ (ext_alloc _ (ext_alloc _ (ext_alloc _ (ext_alloc _ (ext_refl wr))))))
  refine ⟨?_, ?_, ?_, ?_, ?_, ?_, ?_, ?_, hx, hw, rfl, hb⟩
  · rw [Below.heap_alloc _ _ _ (by first | (simp; done) | (simp; omega)), Below.heap_alloc _ _ _ (by first | (simp; done) | (simp; omega)), Below.heap_alloc _ _ _ (by first | (simp; done) | (simp; omega)), Below.heap_alloc _ _ _ (by first | (simp; done) | (simp; omega)), Below.heap_alloc _ _ _ (by simp)]
    exact heap_at _ _ _ rfl
  · rw [Below.heap_alloc _ _ _ (by first | (simp; done) | (simp; omega)), Below.heap_alloc _ _ _ (by first | (simp; done) | (simp; omega)), Below.heap_alloc _ _ _ (by first | (simp; done) | (simp; omega)), Below.heap_alloc _ _ _ (by simp)]
    exact heap_at _ _ _ (by simp)
  · rw [Below.heap_alloc _ _ _ (by first | (simp; done) | (simp; omega)), Below.heap_alloc _ _ _ (by first | (simp; done) | (simp; omega)), Below.heap_alloc _ _ _ (by simp)]
    exact heap_at _ _ _ (by simp)
  · rw [Below.heap_alloc _ _ _ (by first | (simp; done) | (simp; omega)), Below.heap_alloc _ _ _ (by simp)]
    exact heap_at _ _ _ (by simp)
  · rw [Below.heap_alloc _ _ _ (by simp)]
    exact heap_at _ _ _ (by simp)
  · exact heap_at _ _ _ (by simp)
  · exact (h.more (E := RpE D wr.heap.size) fun k hk => ⟨fun h => h.resolve_right (by omega), .inl⟩).ext hx
  · exact hR.only hx (fun b h1 h2 h3 => h1 (h3.resolve_right (by omega))) (fun b h1 h2 => by
      have h4 : wr.heap.size + 6 ≤ b := by simpa using h1
      rcases h2 with h2 | h2
      · have := hb b h2; omega
      · omega)

set_option maxRecDepth 8000 in
set_option maxHeartbeats 16000000 in
theorem rpick_any (h : VSt D S vb vl vt w wr) (hR : RefIn (fun b => ¬ D b) R M wr) (hw : Ext w wr) (hb : ∀ k, D k → k < wr.heap.size) (r : Int) (e : BitVec 64) (hrun : S.t.length + S.l.length ≤ 900) (hsm : ∀ l ∈ S.q, l.length ≤ 900) (x : MS × WS × Nat × List (BitVec 64)) (hx : Hid (pickF r e M S = x)) :
    Calls Try.prog 19 #[wV S vb vl vt, refV R M, .agg #[.int .i64 r, .int .u64 (U e)]] wr (RetRP D x w wr) := by
  have HK := Lib.hid (rp_start h hR hw hb r e)
  have HV := Lib.hid h
  obtain ⟨ba, bc, rfl⟩ := h.slice
  obtain ⟨la, ln, lc, rfl⟩ := h.l
  obtain ⟨ta, tn, tc, rfl⟩ := h.t
  obtain ⟨iU, hiU, hy0, hy1, hy2⟩ := info_parts Try.infoU64t
  clear h hR
  unfold wV refV
  go_enter Try.func19, Try.ntmps19
  go_upto_region 1 with fail
  generalize hW : World.alloc _ (.cells #[.int .i64 0, .slice none 0 0] 59) = T at HK ⊢
  clear hW
  generalize hB : wr.heap.size = B at HK hb ⊢
  simp only [Nat.add_assoc, Nat.reduceAdd]
  obtain ⟨c0, c1, c2, c3, c4, cz, ll⟩ := fiv_of HK.out.bw
  have m0 : T.cell? ⟨B + 1, 0, none⟩ = some (.slice R.wa M.n R.wc) := cell_at HK.out.bm rfl
  have m1 : T.cell? ⟨B + 1, 1, none⟩ = some (.slice R.ea M.n R.ec) := cell_at HK.out.bm rfl
  have m2 : T.cell? ⟨B + 1, 2, none⟩ = some (.int .i64 M.ct) := cell_at HK.out.bm rfl
  have ml := heap_lt HK.out.bm
  cases hbu : S.busy with
  | false =>
    have c2' := c2
    rw [hbu] at c2'
    clear c2
    have c2 := c2'
    clear c2'
    cases hq : S.q with
    | nil =>
      have HX : Hid (pickF r e M S = (M, S, 0, [])) := Lib.hid (pickF_idle hbu hq)
      have hql : S.q.length = 0 := by rw [hq]; rfl
      rw [hql] at c1
      have HR := Lib.hid HK.out.ref
      have HU : Hid (UsB (RpE D B) T (.slice none 0 0) []) := Lib.hid (UsB.nil _ _)
      have HQL := Lib.hid hql
      have HBU := Lib.hid hbu
      clear hq hql
      go_wp2
      have HKE := Lib.hid (HK.out.grow (ext_drew (ext_refl T)))
      have hb3 : B < B + 3 := by omega
      have hb31 : B + 1 < B + 3 := by omega
      have hBT : B + 6 ≤ T.heap.size := HK.out.big
      have hBTd : B + 6 ≤ T.drew.heap.size := HKE.out.big
      have F0 : Fr (B + 3) (B + 6) T T.drew := .of_ext (ext_drew (ext_refl T))
      refine wp_region_mix (fun y => ∃ s, y = off (B + 3) (B + 6) T s) [(0, [0, 1, 2]), (1, [3]), (1, [4]), (1, [5])] (by kernel_rfl) (by kernel_rfl) (off_of F0) ?_
      simp only [pieces, pickL, List.map_cons, List.map_nil, List.getD_cons_zero, List.getD_cons_succ]
      refine mix_reads ?_
      repeat (go_big_quiet_step (fail))
      refine wpQuiet_nil (mix_acts ?_)
      obtain ⟨e0, e1, e2, e3, e4, ez, el⟩ := fiv_of HKE.out.r3
      have g0 : T.drew.cell? ⟨B + 4, 0, none⟩ = some (.slice none 0 0) := cell_at HKE.out.r4 rfl
      have g1 : T.drew.cell? ⟨B + 4, 1, none⟩ = some (.slice none 0 0) := cell_at HKE.out.r4 rfl
      have g2 : T.drew.cell? ⟨B + 4, 2, none⟩ = some (.int .i64 0) := cell_at HKE.out.r4 rfl
      have gz := fun o => free_at (o := o) HKE.out.r4
      have gl := heap_lt HKE.out.r4
      have j0 : T.drew.cell? ⟨B + 5, 0, none⟩ = some (.int .i64 0) := cell_at HKE.out.r5 rfl
      have j1 : T.drew.cell? ⟨B + 5, 1, none⟩ = some (.slice none 0 0) := cell_at HKE.out.r5 rfl
      have jz := fun o => free_at (o := o) HKE.out.r5
      have jl := heap_lt HKE.out.r5
      have hRE := Lib.hid (HR.out.ext (ext_drew (ext_refl T)))
      have hUE := Lib.hid (HU.out.fr (.of_ext (ext_drew (ext_refl T))))
      generalize T.drew = Td at *
      have F1 := ((((F0.set (p := ⟨B + 3, 0, none⟩) (.int .i64 (S.n : Int)) (by simp) (by simp)).set (p := ⟨B + 3, 1, none⟩) (.slice ba S.q.length bc) (by simp) (by simp)).set (p := ⟨B + 3, 2, none⟩) (.bool S.busy) (by simp) (by simp)).set (p := ⟨B + 3, 3, none⟩) (.slice la ln lc) (by simp) (by simp)).set (p := ⟨B + 3, 4, none⟩) (.slice ta tn tc) (by simp) (by simp)
      have F2 := ((F1.set (p := ⟨B + 4, 0, none⟩) (.slice R.wa M.n R.wc) (by simp) (by simp)).set (p := ⟨B + 4, 1, none⟩) (.slice R.ea M.n R.ec) (by simp) (by simp)).set (p := ⟨B + 4, 2, none⟩) (.int .i64 M.ct) (by simp) (by simp)
      have F3 := (F2.set (p := ⟨B + 5, 0, none⟩) (.int .i64 (0 : Int)) (by simp) (by simp)).set (p := ⟨B + 5, 1, none⟩) (.slice none 0 0) (by simp) (by simp)
      have FF := Lib.hid (And.intro F1 (And.intro F2 F3))
      clear F1 F2 F3 F0
      rw [HQL.out, HBU.out] at FF
      go_wp2
      refine mixQ_mk (off_of FF.out.1) (mix_acts ?_)
      go_wp2
      refine mixQ_mk (off_of FF.out.2.1) (mix_acts ?_)
      go_wp2
      refine mixQ_mk (off_of FF.out.2.2) (mix_end ?_)
      go_wp2
      have hend := HKE.out.ends hRE.out x 0 [] none 0 (by rw [← hx.out, HX.out]) hUE.out
      unfold putE wV at hend
      rw [HQL.out, HBU.out] at hend
      exact bodyPost_ret (v := .tuple #[.agg #[.int .i64 (S.n : Int), .slice ba 0 bc, .bool false, .slice la ln lc, .slice ta tn tc], refV R M, .agg #[.int .i64 0, .slice none 0 0]]) (by simp only [results, Try.results19, go_sem]; simp [go_sem, e0, e1, e2, e3, e4, g0, g1, g2, j0, j1, refV]) rfl hend
    | cons l0 q0 =>
      have HX0 : Hid (goF r e M (S.begin l0 q0) = x) := Lib.hid (by rw [← pickF_begin hbu hq]; exact hx.out)
      obtain ⟨us, hRow, hQs⟩ := HK.out.vs.b
      rw [hq] at hQs
      obtain ⟨u, us, rfl⟩ : ∃ u us', us = u :: us' := by
        cases us with
        | nil => exact hQs.elim
        | cons u us => exact ⟨u, us, rfl⟩
      obtain ⟨b, o, cap, ev, hcap⟩ := hRow.shape
      simp at ev
      obtain ⟨rfl, hqn, rfl⟩ := ev
      rw [hqn] at c1 hRow
      obtain ⟨ua, uc, rfl⟩ : ∃ ua uc, u = .slice ua l0.length uc := by
        obtain ⟨ua, uc, eu, _⟩ := hQs.1
        exact ⟨ua, uc, eu⟩
      have hu0 := hRow.head
      have lu := cell_lt hu0
      have HROW := Lib.hid hRow
      have HQS := Lib.hid hQs
      have hrun1 : ([] : List (BitVec 64)).length + l0.length ≤ 900 := by simpa using hsm l0 (by rw [hq]; simp)
      clear hRow hQs hqn hx
      go_upto_region 8 with fail
      have hvx : ∃ vx, vx = (if bc = 1 then some (⟨b, o, none⟩ : Addr) else some ⟨b, o + 1, none⟩) ∧ (0 < us.length → vx = some ⟨b, o + 1, none⟩) := ⟨_, rfl, fun h => if_neg (by omega)⟩
      obtain ⟨vx, evx, hvx⟩ := hvx
      try rw [← evx]
      clear evx
      have hf4 : FD (fun k => k = B) T ((((T.setCell ⟨B, 3, none⟩ (.slice ua l0.length uc)).setCell ⟨B, 1, none⟩ (.slice vx us.length (bc - 1))).setCell ⟨B, 4, none⟩ (.slice none 0 0)).setCell ⟨B, 2, none⟩ (.bool true)) :=
        (((((FD.refl (fun k => k = B) T).set (p := ⟨B, 3, none⟩) _ rfl).set (p := ⟨B, 1, none⟩) _ rfl).set (p := ⟨B, 4, none⟩) _ rfl).set (p := ⟨B, 2, none⟩) _ rfl)
      have hk4 : ((((T.setCell ⟨B, 3, none⟩ (.slice ua l0.length uc)).setCell ⟨B, 1, none⟩ (.slice vx us.length (bc - 1))).setCell ⟨B, 4, none⟩ (.slice none 0 0)).setCell ⟨B, 2, none⟩ (.bool true)).heap[B]? = some (.cells #[.int .i64 (S.n : Int), .slice vx us.length (bc - 1), .bool true, .slice ua l0.length uc, .slice none 0 0] 42) := by
        have k1 := set_same (o := 3) (.slice ua l0.length uc) HK.out.bw
        have k2 := set_same (o := 1) (.slice vx us.length (bc - 1)) k1
        have k3 := set_same (o := 4) (.slice none 0 0) k2
        have k4 := set_same (o := 2) (.bool true) k3
        rw [k4]
        simp
      have HK1 : RpIn D B (S.begin l0 q0) M R (.slice vx us.length (bc - 1)) (.slice ua l0.length uc) (.slice none 0 0) r e w wr ((((T.setCell ⟨B, 3, none⟩ (.slice ua l0.length uc)).setCell ⟨B, 1, none⟩ (.slice vx us.length (bc - 1))).setCell ⟨B, 4, none⟩ (.slice none 0 0)).setCell ⟨B, 2, none⟩ (.bool true)) :=
        HK.out.lay (S' := S.begin l0 q0) hf4 hk4 ⟨⟨us, (HROW.out.tail vx (bc - 1) hvx (by omega)).fr (hf4.wide fun k hk => .inr (by omega)), HQS.out.2⟩, ⟨_, _, _, rfl⟩, ⟨_, _, _, rfl⟩, fun _ => HQS.out.1, fun _ => UsB.nil _ _⟩
      have HA := Lib.hid HQS.out.1
      clear hf4 hk4 hvx hu0 lu c0 c1 c2 c3 c4 cz ll m0 m1 m2 ml HK HV HROW HQS
      generalize hT4 : World.setCell _ (⟨B, 2, none⟩ : Addr) (.bool true) = T4 at HK1 ⊢
      obtain ⟨S1, hS1⟩ : ∃ S1, S1 = S.begin l0 q0 := ⟨_, rfl⟩
      have HSL : Hid (S1.l = l0) := Lib.hid (by rw [hS1]; rfl)
      obtain ⟨ta9, hta9⟩ : ∃ t, t = (none : Option Addr) := ⟨_, rfl⟩
      obtain ⟨t9, ht9⟩ : ∃ t, t = ([] : List (BitVec 64)) := ⟨_, rfl⟩
      obtain ⟨tc9, htc9⟩ : ∃ c, c = (0 : Nat) := ⟨_, rfl⟩
      have e9 : Value.slice none 0 0 = .slice ta9 t9.length tc9 := by rw [hta9, ht9, htc9]; rfl
      have HST : Hid (S1.t = t9) := Lib.hid (by rw [hS1, ht9]; rfl)
      have HBU : Hid (S1.busy = true) := Lib.hid (by rw [hS1]; rfl)
      rw [← hS1] at HK1 HX0
      have HK := Lib.hid HK1
      have HX := HX0
      have HT : Hid (UsB (RpE D B) T4 (.slice none 0 0) t9) := Lib.hid (by rw [ht9]; exact UsB.nil _ _)
      rw [e9] at HK HT
      rw [← ht9] at hrun1
      clear hT4 hS1 HX0 HK1 hq hbu T e9 hta9 ht9 htc9
      rcases (show l0 = [] ∨ ∃ a1 l1, l0 = a1 :: l1 by cases l0 with | nil => exact .inl rfl | cons a1 l1 => exact .inr ⟨_, _, rfl⟩) with hl | ⟨a1, l1, hl⟩
      · have hl0 : l0.length = 0 := by rw [hl]; rfl
        have HE : Hid (goF r e M S1 = (M, S1.rest, 2, t9)) := Lib.hid (by rw [goF_nil (HSL.out.trans hl), HST.out])
        obtain ⟨c0, c1, c2, c3, c4, cz, ll⟩ := fiv_of HK.out.bw
        have m0 : T4.cell? ⟨B + 1, 0, none⟩ = some (.slice R.wa M.n R.wc) := cell_at HK.out.bm rfl
        have m1 : T4.cell? ⟨B + 1, 1, none⟩ = some (.slice R.ea M.n R.ec) := cell_at HK.out.bm rfl
        have m2 : T4.cell? ⟨B + 1, 2, none⟩ = some (.int .i64 M.ct) := cell_at HK.out.bm rfl
        have ml := heap_lt HK.out.bm

        rw [hl0] at c3
        rw [HBU.out] at c2
        go_wp2
        have hf5 : FD (fun k => k = B) T4 (T4.setCell ⟨B, 2, none⟩ (.bool false)) := (FD.refl (fun k => k = B) T4).set (p := ⟨B, 2, none⟩) _ rfl
        have hk5 : (T4.setCell ⟨B, 2, none⟩ (.bool false)).heap[B]? = some (.cells #[.int .i64 (S1.n : Int), .slice vx us.length (bc - 1), .bool false, .slice ua 0 uc, .slice ta9 t9.length tc9] 42) := by
          have k1 := set_same (o := 2) (.bool false) HK.out.bw
          rw [hl0] at k1
          rw [k1]
          simp
        have HK5 : Hid (RpIn D B S1.rest M R (.slice vx us.length (bc - 1)) (.slice ua 0 uc) (.slice ta9 t9.length tc9) r e w wr (T4.setCell ⟨B, 2, none⟩ (.bool false))) :=
          Lib.hid (HK.out.lay (S' := S1.rest) hf5 hk5 (((HK.out.vs.fr (hf5.wide fun k hk => .inr (by omega))).rests _ _ ⟨_, _, _, rfl⟩ ⟨_, _, _, rfl⟩)))
        have HU := Lib.hid (HT.out.fr (hf5.wide fun k hk => .inr (by omega)))
        clear c0 c1 c2 c3 c4 cz ll m0 m1 m2 ml hf5 hk5
        generalize T4.setCell ⟨B, 2, none⟩ (.bool false) = T5 at HK5 HU ⊢
        have HR := Lib.hid HK5.out.ref
        obtain ⟨c0, c1, c2, c3, c4, cz, ll⟩ := fiv_of HK5.out.bw
        have m0 : T5.cell? ⟨B + 1, 0, none⟩ = some (.slice R.wa M.n R.wc) := cell_at HK5.out.bm rfl
        have m1 : T5.cell? ⟨B + 1, 1, none⟩ = some (.slice R.ea M.n R.ec) := cell_at HK5.out.bm rfl
        have m2 : T5.cell? ⟨B + 1, 2, none⟩ = some (.int .i64 M.ct) := cell_at HK5.out.bm rfl
        have ml := heap_lt HK5.out.bm
        have HKE := Lib.hid (HK5.out.grow (ext_drew (ext_refl T5)))
        have hb3 : B < B + 3 := by omega
        have hb31 : B + 1 < B + 3 := by omega
        have hBT : B + 6 ≤ T5.heap.size := HK5.out.big
        have hBTd : B + 6 ≤ T5.drew.heap.size := HKE.out.big
        have F0 : Fr (B + 3) (B + 6) T5 T5.drew := .of_ext (ext_drew (ext_refl T5))
        refine wp_region_mix (fun y => ∃ s, y = off (B + 3) (B + 6) T5 s) [(0, [0, 1, 2, 3, 4]), (1, [5]), (1, [6]), (1, [7])] (by kernel_rfl) (by kernel_rfl) (off_of F0) ?_
        simp only [pieces, pickL, List.map_cons, List.map_nil, List.getD_cons_zero, List.getD_cons_succ]
        refine mix_reads ?_
        repeat (go_big_quiet_step (fail))
        refine wpQuiet_nil (mix_acts ?_)
        obtain ⟨e0, e1, e2, e3, e4, ez, el⟩ := fiv_of HKE.out.r3
        have g0 : T5.drew.cell? ⟨B + 4, 0, none⟩ = some (.slice none 0 0) := cell_at HKE.out.r4 rfl
        have g1 : T5.drew.cell? ⟨B + 4, 1, none⟩ = some (.slice none 0 0) := cell_at HKE.out.r4 rfl
        have g2 : T5.drew.cell? ⟨B + 4, 2, none⟩ = some (.int .i64 0) := cell_at HKE.out.r4 rfl
        have gz := fun o => free_at (o := o) HKE.out.r4
        have gl := heap_lt HKE.out.r4
        have j0 : T5.drew.cell? ⟨B + 5, 0, none⟩ = some (.int .i64 0) := cell_at HKE.out.r5 rfl
        have j1 : T5.drew.cell? ⟨B + 5, 1, none⟩ = some (.slice none 0 0) := cell_at HKE.out.r5 rfl
        have jz := fun o => free_at (o := o) HKE.out.r5
        have jl := heap_lt HKE.out.r5
        have hRE := Lib.hid (HR.out.ext (ext_drew (ext_refl T5)))
        have hUE := Lib.hid (HU.out.fr (.of_ext (ext_drew (ext_refl T5))))
        generalize T5.drew = Td at *
        have F1 := ((((F0.set (p := ⟨B + 3, 0, none⟩) (.int .i64 (S1.n : Int)) (by simp) (by simp)).set (p := ⟨B + 3, 1, none⟩) (.slice vx us.length (bc - 1)) (by simp) (by simp)).set (p := ⟨B + 3, 2, none⟩) (.bool false) (by simp) (by simp)).set (p := ⟨B + 3, 3, none⟩) (.slice ua 0 uc) (by simp) (by simp)).set (p := ⟨B + 3, 4, none⟩) (.slice ta9 t9.length tc9) (by simp) (by simp)
        have F2 := ((F1.set (p := ⟨B + 4, 0, none⟩) (.slice R.wa M.n R.wc) (by simp) (by simp)).set (p := ⟨B + 4, 1, none⟩) (.slice R.ea M.n R.ec) (by simp) (by simp)).set (p := ⟨B + 4, 2, none⟩) (.int .i64 M.ct) (by simp) (by simp)
        have F3 := (F2.set (p := ⟨B + 5, 0, none⟩) (.int .i64 (2 : Int)) (by simp) (by simp)).set (p := ⟨B + 5, 1, none⟩) (.slice ta9 t9.length tc9) (by simp) (by simp)
        have FF := Lib.hid (And.intro F1 (And.intro F2 F3))
        clear F1 F2 F3 F0
        skip
        go_wp2
        refine mixQ_mk (off_of FF.out.1) (mix_acts ?_)
        go_wp2
        refine mixQ_mk (off_of FF.out.2.1) (mix_acts ?_)
        go_wp2
        refine mixQ_mk (off_of FF.out.2.2) (mix_end ?_)
        go_wp2
        have hend := HKE.out.ends hRE.out x 2 (t9) ta9 tc9 (by rw [← HX.out, HE.out]) hUE.out
        unfold putE at hend
        exact bodyPost_ret (v := .tuple #[wV S1.rest (.slice vx us.length (bc - 1)) (.slice ua 0 uc) (.slice ta9 t9.length tc9), refV R M, .agg #[.int .i64 2, .slice ta9 t9.length tc9]]) (by simp only [results, Try.results19, go_sem]; simp [go_sem, e0, e1, e2, e3, e4, g0, g1, g2, j0, j1, wV, refV]) rfl hend

      · obtain ⟨b1, o1, hla, _, hlt1, hcells⟩ := HA.out.at (by rw [hl]; simp)
        obtain ⟨d0, d1, d2, d3⟩ := hcells 0 (by rw [hl]; simp)
        rw [hl, Nat.zero_mul, Nat.add_zero] at d0 d1 d2 d3
        have ea : aN (a1 :: l1) 0 = a1 := rfl
        rw [ea] at d0 d1 d2 d3
        replace d0 := ext_cell (ext_trans HK.out.law HK.out.ext) d0
        replace d1 := ext_cell (ext_trans HK.out.law HK.out.ext) d1
        replace d2 := ext_cell (ext_trans HK.out.law HK.out.ext) d2
        replace d3 := ext_cell (ext_trans HK.out.law HK.out.ext) d3
        have dl := cell_lt d0
        clear ea hcells
        have hln : l0.length = l1.length + 1 := by rw [hl]; rfl
        obtain ⟨c0, c1, c2, c3, c4, cz, ll⟩ := fiv_of HK.out.bw
        have m0 : T4.cell? ⟨B + 1, 0, none⟩ = some (.slice R.wa M.n R.wc) := cell_at HK.out.bm rfl
        have m1 : T4.cell? ⟨B + 1, 1, none⟩ = some (.slice R.ea M.n R.ec) := cell_at HK.out.bm rfl
        have m2 : T4.cell? ⟨B + 1, 2, none⟩ = some (.int .i64 M.ct) := cell_at HK.out.bm rfl
        have ml := heap_lt HK.out.bm

        rw [hln, hla] at c3
        rw [HBU.out] at c2
        have HLN := Lib.hid hln
        have HLA := Lib.hid hla
        have HL := Lib.hid hl
        clear hln hla hl
        have n0 : T4.cell? ⟨B + 2, 0, none⟩ = some (.int .i64 r) := cell_at HK.out.bc rfl
        have n1 : T4.cell? ⟨B + 2, 1, none⟩ = some (.int .u64 (U e)) := cell_at HK.out.bc rfl
        have nl := heap_lt HK.out.bc
        obtain ⟨M2, y, okb, hsp⟩ : ∃ M2 y okb, DoSpec M r e a1 M2 y okb := by
          by_cases hd : DoOk M r e a1.op a1.at_
          · exact ⟨_, _, true, .inl ⟨hd, rfl, rfl, rfl⟩⟩
          · exact ⟨_, _, false, .inr ⟨hd, rfl, rfl, rfl⟩⟩
        have HSP := Lib.hid hsp
        clear hsp
        go_wp2
        refine wp_region_ways (fun y => ∃ s, y = over T4 s) (by kernel_rfl) (over_of (ext_drew (ext_refl T4))) ?_
        refine ways_reads [0, 1, 2, 3, 4, 5] (by kernel_rfl) ?_
        simp only [pickL, List.map_cons, List.map_nil, List.getD_cons_zero, List.getD_cons_succ]
        repeat (go_big_quiet_step (fail))
        refine wpQuiet_nil ?_
        clear c0 c1 c2 c3 c4 cz ll m0 m1 m2 ml n0 n1 nl d0 d1 d2 d3 dl
        refine ways_fork 6 (by kernel_rfl) ?_ (ways_act 11 (by kernel_rfl) ?_)
        · simp only [pickL, List.map_cons, List.map_nil, List.getD_cons_zero, List.getD_cons_succ]
          go_wp2_with (go_at_call 38; refine (rdo_any (HK.out.ref.ext (ext_drew (ext_refl T4))) r e a1 y okb HSP.out).mono ?_; rintro en X1 ⟨R2, rfl, hr, hx⟩; have HR2 := Lib.hid hr; have HX1 := Lib.hid (ext_trans (ext_drew (ext_refl T4)) hx); clear hr hx; unfold refV)
          refine mixQ_mk (over_of HX1.out) (ways_reads [7, 8, 9, 10] (by kernel_rfl) ?_)
          simp only [pickL, List.map_cons, List.map_nil, List.getD_cons_zero, List.getD_cons_succ]
          repeat (go_big_quiet_step (fail))
          refine wpQuiet_nil (ways_act 11 (by kernel_rfl) ?_)
          simp only [pickL, List.map_cons, List.map_nil, List.getD_cons_zero, List.getD_cons_succ]
          go_wp2
          refine mixQ_mk (over_of (ext_alloc _ HX1.out)) (ways_act 12 (by kernel_rfl) ?_)
          simp only [pickL, List.map_cons, List.map_nil, List.getD_cons_zero, List.getD_cons_succ]
          go_wp2
          refine mixQ_mk (over_of (ext_alloc _ HX1.out)) (ways_reads [13, 14] (by kernel_rfl) ?_)
          simp only [pickL, List.map_cons, List.map_nil, List.getD_cons_zero, List.getD_cons_succ]
          repeat (go_big_quiet_step (fail))
          refine wpQuiet_nil (ways_end (by kernel_rfl) ?_)
          have HQ : Hid (RpQ D B S1 M R (.slice vx us.length (bc - 1)) (.slice ua l0.length uc) (.slice ta9 t9.length tc9) r e w wr X1.heap.size M2 R2 (X1.alloc (.cells #[.slice R2.wa M2.n R2.wc, .slice R2.ea M2.n R2.ec, .int .i64 M2.ct] 33))) :=
            Lib.hid ⟨HK.out.grow (ext_alloc _ HX1.out), HR2.out.ext (ext_alloc _ (ext_refl X1)), heap_at _ _ _ rfl, by have := HK.out.big; have := HX1.out.size; omega⟩
          have HT2 := Lib.hid (HT.out.fr (.of_ext (ext_alloc (.cells #[.slice R2.wa M2.n R2.wc, .slice R2.ea M2.n R2.ec, .int .i64 M2.ct] 33) HX1.out)))
          generalize X1.heap.size = bd at HQ ⊢
          generalize hT2 : X1.alloc _ = T6 at HQ HT2 ⊢
          clear hT2 HR2 HX1 HK HT X1
          cases okb with
          | false =>
            have HE : Hid (goF r e M S1 = (M, S1.rest, 3, [])) := by
              rcases HSP.out with ⟨_, _, _, h⟩ | ⟨hd, _⟩
              · cases h
              · exact Lib.hid (goF_no (HSL.out.trans HL.out) hd)
            obtain ⟨c0, c1, c2, c3, c4, cz, ll⟩ := fiv_of HQ.out.pk.bw
            have m0 : T6.cell? ⟨B + 1, 0, none⟩ = some (.slice R.wa M.n R.wc) := cell_at HQ.out.pk.bm rfl
            have m1 : T6.cell? ⟨B + 1, 1, none⟩ = some (.slice R.ea M.n R.ec) := cell_at HQ.out.pk.bm rfl
            have m2 : T6.cell? ⟨B + 1, 2, none⟩ = some (.int .i64 M.ct) := cell_at HQ.out.pk.bm rfl
            have ml := heap_lt HQ.out.pk.bm

            rw [HBU.out] at c2
            go_wp2
            have hf5 : FD (fun k => k = B) T6 (T6.setCell ⟨B, 2, none⟩ (.bool false)) := (FD.refl (fun k => k = B) T6).set (p := ⟨B, 2, none⟩) _ rfl
            have hk5 : (T6.setCell ⟨B, 2, none⟩ (.bool false)).heap[B]? = some (.cells #[.int .i64 (S1.n : Int), .slice vx us.length (bc - 1), .bool false, .slice ua l0.length uc, .slice ta9 t9.length tc9] 42) := by
              have k1 := set_same (o := 2) (.bool false) HQ.out.pk.bw
              rw [k1]
              simp
            have HK7 : Hid (RpIn D B S1.rest M R (.slice vx us.length (bc - 1)) (.slice ua l0.length uc) (.slice ta9 t9.length tc9) r e w wr (T6.setCell ⟨B, 2, none⟩ (.bool false))) :=
              Lib.hid (HQ.out.pk.lay (S' := S1.rest) hf5 hk5 (((HQ.out.pk.vs.fr (hf5.wide fun k hk => .inr (by omega))).rests _ _ ⟨_, _, _, rfl⟩ ⟨_, _, _, rfl⟩)))
            clear c0 c1 c2 c3 c4 cz ll m0 m1 m2 ml hf5 hk5 HQ HT2
            generalize T6.setCell ⟨B, 2, none⟩ (.bool false) = T7 at HK7 ⊢
            have HR := Lib.hid HK7.out.ref
            have HU : Hid (UsB (RpE D B) T7 (.slice none 0 0) []) := Lib.hid (UsB.nil _ _)
            obtain ⟨c0, c1, c2, c3, c4, cz, ll⟩ := fiv_of HK7.out.bw
            have m0 : T7.cell? ⟨B + 1, 0, none⟩ = some (.slice R.wa M.n R.wc) := cell_at HK7.out.bm rfl
            have m1 : T7.cell? ⟨B + 1, 1, none⟩ = some (.slice R.ea M.n R.ec) := cell_at HK7.out.bm rfl
            have m2 : T7.cell? ⟨B + 1, 2, none⟩ = some (.int .i64 M.ct) := cell_at HK7.out.bm rfl
            have ml := heap_lt HK7.out.bm
            have HKE := Lib.hid (HK7.out.grow (ext_drew (ext_refl T7)))
            have hb3 : B < B + 3 := by omega
            have hb31 : B + 1 < B + 3 := by omega
            have hBT : B + 6 ≤ T7.heap.size := HK7.out.big
            have hBTd : B + 6 ≤ T7.drew.heap.size := HKE.out.big
            have F0 : Fr (B + 3) (B + 6) T7 T7.drew := .of_ext (ext_drew (ext_refl T7))
            refine wp_region_mix (fun y => ∃ s, y = off (B + 3) (B + 6) T7 s) [(0, [0, 1, 2]), (1, [3]), (1, [4]), (1, [5])] (by kernel_rfl) (by kernel_rfl) (off_of F0) ?_
            simp only [pieces, pickL, List.map_cons, List.map_nil, List.getD_cons_zero, List.getD_cons_succ]
            refine mix_reads ?_
            repeat (go_big_quiet_step (fail))
            refine wpQuiet_nil (mix_acts ?_)
            obtain ⟨e0, e1, e2, e3, e4, ez, el⟩ := fiv_of HKE.out.r3
            have g0 : T7.drew.cell? ⟨B + 4, 0, none⟩ = some (.slice none 0 0) := cell_at HKE.out.r4 rfl
            have g1 : T7.drew.cell? ⟨B + 4, 1, none⟩ = some (.slice none 0 0) := cell_at HKE.out.r4 rfl
            have g2 : T7.drew.cell? ⟨B + 4, 2, none⟩ = some (.int .i64 0) := cell_at HKE.out.r4 rfl
            have gz := fun o => free_at (o := o) HKE.out.r4
            have gl := heap_lt HKE.out.r4
            have j0 : T7.drew.cell? ⟨B + 5, 0, none⟩ = some (.int .i64 0) := cell_at HKE.out.r5 rfl
            have j1 : T7.drew.cell? ⟨B + 5, 1, none⟩ = some (.slice none 0 0) := cell_at HKE.out.r5 rfl
            have jz := fun o => free_at (o := o) HKE.out.r5
            have jl := heap_lt HKE.out.r5
            have hRE := Lib.hid (HR.out.ext (ext_drew (ext_refl T7)))
            have hUE := Lib.hid (HU.out.fr (.of_ext (ext_drew (ext_refl T7))))
            generalize T7.drew = Td at *
            have F1 := ((((F0.set (p := ⟨B + 3, 0, none⟩) (.int .i64 (S1.n : Int)) (by simp) (by simp)).set (p := ⟨B + 3, 1, none⟩) (.slice vx us.length (bc - 1)) (by simp) (by simp)).set (p := ⟨B + 3, 2, none⟩) (.bool false) (by simp) (by simp)).set (p := ⟨B + 3, 3, none⟩) (.slice ua l0.length uc) (by simp) (by simp)).set (p := ⟨B + 3, 4, none⟩) (.slice ta9 t9.length tc9) (by simp) (by simp)
            have F2 := ((F1.set (p := ⟨B + 4, 0, none⟩) (.slice R.wa M.n R.wc) (by simp) (by simp)).set (p := ⟨B + 4, 1, none⟩) (.slice R.ea M.n R.ec) (by simp) (by simp)).set (p := ⟨B + 4, 2, none⟩) (.int .i64 M.ct) (by simp) (by simp)
            have F3 := (F2.set (p := ⟨B + 5, 0, none⟩) (.int .i64 (3 : Int)) (by simp) (by simp)).set (p := ⟨B + 5, 1, none⟩) (.slice none 0 0) (by simp) (by simp)
            have FF := Lib.hid (And.intro F1 (And.intro F2 F3))
            clear F1 F2 F3 F0
            skip
            go_wp2
            refine mixQ_mk (off_of FF.out.1) (mix_acts ?_)
            go_wp2
            refine mixQ_mk (off_of FF.out.2.1) (mix_acts ?_)
            go_wp2
            refine mixQ_mk (off_of FF.out.2.2) (mix_end ?_)
            go_wp2
            have hend := HKE.out.ends hRE.out x 3 [] none 0 (by rw [← HX.out, HE.out]) hUE.out
            unfold putE at hend
            exact bodyPost_ret (v := .tuple #[wV S1.rest (.slice vx us.length (bc - 1)) (.slice ua l0.length uc) (.slice ta9 t9.length tc9), refV R M, .agg #[.int .i64 3, .slice none 0 0]]) (by simp only [results, Try.results19, go_sem]; simp [go_sem, e0, e1, e2, e3, e4, g0, g1, g2, j0, j1, wV, refV]) rfl hend

          | true =>
            obtain ⟨hd, hM2, hy⟩ : DoOk M r e a1.op a1.at_ ∧ M2 = M.done r a1.op a1.at_ a1.a a1.b ∧ y = M.wd r.toNat a1.at_.toNat := by
              rcases HSP.out with ⟨h1, h2, h3, _⟩ | ⟨_, _, _, h⟩
              · exact ⟨h1, h2, h3⟩
              · cases h
            have HDO := Lib.hid (And.intro hd (And.intro hM2 hy))
            clear hd hM2 hy HSP
            obtain ⟨c0, c1, c2, c3, c4, cz, ll⟩ := fiv_of HQ.out.pk.bw
            have m0 : T6.cell? ⟨B + 1, 0, none⟩ = some (.slice R.wa M.n R.wc) := cell_at HQ.out.pk.bm rfl
            have m1 : T6.cell? ⟨B + 1, 1, none⟩ = some (.slice R.ea M.n R.ec) := cell_at HQ.out.pk.bm rfl
            have m2 : T6.cell? ⟨B + 1, 2, none⟩ = some (.int .i64 M.ct) := cell_at HQ.out.pk.bm rfl
            have ml := heap_lt HQ.out.pk.bm

            rw [HLN.out, HLA.out] at c3
            rw [HBU.out] at c2
            have H0 : Hid (ta9 = none → t9.length = 0) := Lib.hid (by
              first
                | exact fun _ => rfl
                | (intro e0; obtain ⟨a9, c9, e9, _, h9⟩ := HT2.out; simp at e9; obtain ⟨rfl, rfl⟩ := e9; by_cases hp : 0 < t9.length
                   · obtain ⟨b9, o9, ea9, _⟩ := h9 hp; rw [e0] at ea9; cases ea9
                   · omega))
            have HNW : Hid (∀ ad, ta9 = some ad → ∀ j u, ((t9).map W1)[j]? = some u → (T6.alloc (.cells #[] 43)).cell? (ad.add j) = some u) := Lib.hid (by
              intro ad ea
              first
                | (cases ea; done)
                | exact news_us (by rw [← ea]; exact HT2.out.us.ext (ext_alloc _ (ext_refl T6))))
            have h6 := HQ.out.pk.big
            have hfar := HQ.out.far
            go_wp2_with (at_builtin; refine Hid.out ?_)
            refine Lib.hid ?_
            refine wpList_append_opt rfl (.tmp 60) (.tmp 62) 31 rfl T6.heap.size 43 iU (.int .u64 0) 1 8 Try.underlying31 hiU hy0 hy1 hy2 rfl (by decide) (.slice (some ⟨T6.heap.size, 0, none⟩) 0 0) 0 [] rfl (own_none _ _ _ _ _ rfl (Nat.le_refl _)) ta9 (t9.length) tc9 ((t9).map W1) rfl H0.out (by simp) HNW.out (ones_us _) (by unfold maxLen; omega) (by omega) (by simp) ?_
            intro v2 w2 hv2 hg2
            have HV2 := Lib.hid hv2
            have HX2 := Lib.hid (ext_own (w := T6) (ext_alloc _ (ext_refl T6)) (own_none T6 T6.heap.size 43 1 T6.heap.size rfl (Nat.le_refl _)) hg2)
            clear hv2 hg2 c0 c1 c2 c3 c4 cz ll m0 m1 m2 ml
            have hva : ∃ va, va = (if uc = 1 then some (⟨b1, o1, none⟩ : Addr) else some ⟨b1, o1 + 4, none⟩) ∧ (0 < l1.length → va = some ⟨b1, o1 + 4, none⟩) := ⟨_, rfl, fun h => if_neg (by have h8 := HA.out; have h7 := HLN.out; obtain ⟨_, _, e8, h9, _⟩ := h8; simp at e8; omega)⟩
            obtain ⟨va, eva, hva⟩ := hva
            have HVL : Hid (AsB (fun _ => False) w (.slice va l1.length (uc - 1)) l1) := by
              have h8 := HA.out
              rw [HL.out, HLA.out] at h8
              obtain ⟨_, _, e8, h9, _⟩ := id h8
              simp at e8
              exact Lib.hid (AsB.tail (a := a1) h8 va (uc - 1) hva (by simp at h9; omega))
            have HEVA := Lib.hid eva
            clear hva eva
            cases l1 with
            | nil =>
              have HE : Hid (goF r e M S1 = (M2, S1.rest, 2, (t9) ++ [y])) := Lib.hid (by rw [goF_last (HSL.out.trans HL.out) HDO.out.1, HDO.out.2.1, HDO.out.2.2, HST.out])
              go_upto_region 17 with (at_builtin; refine wpList_append_own _ rfl (.tmp 63) (.tmp 65) 31 rfl T6.heap.size 43 iU (.int .u64 0) 1 8 Try.underlying31 hiU hy0 hy1 hy2 rfl (by decide) v2 (0 + t9.length) ([] ++ (t9).map W1) rfl (own_ext' HV2.out (ext_alloc _ (ext_refl w2))) ⟨w2.heap.size, 0, none⟩ 1 1 [.int .u64 (U y)] rfl rfl (newp _ _ _ _ rfl) (by simp [Value.oneCell']) (by unfold maxLen; omega) (by omega) (by have := HX2.out.size; simp; omega) ?_; intro v3 w3 hv3 hg3 hn3; obtain ⟨wa, wc, rfl⟩ := own_shape hv3; obtain ⟨n3, en3⟩ : ∃ n3, n3 = 0 + t9.length + 1 := ⟨_, rfl⟩; have HX3 := Lib.hid (ext_own (w := T6) (ext_alloc _ HX2.out) (own_ext' HV2.out (ext_alloc _ (ext_refl w2))) hg3); rw [← en3] at hv3 ⊢; have HV3 := Lib.hid hv3; have HN3 := Lib.hid en3; clear hv3 hg3 hn3 en3; have hkk := (HX3.out.block B (by omega)).trans HQ.out.pk.bw; obtain ⟨c0, c1, c2, c3, c4, cz, ll⟩ := fiv_of hkk; rw [HLN.out, HLA.out] at c3; rw [HBU.out] at c2; clear hkk)
              try rw [← HEVA.out]
              have hfA : FD (fun k => k = B) w3 ((w3.setCell ⟨B, 4, none⟩ (.slice wa n3 wc)).setCell ⟨B, 3, none⟩ (.slice va 0 (uc - 1))) := ((FD.refl (fun k => k = B) w3).set (p := ⟨B, 4, none⟩) _ rfl).set (p := ⟨B, 3, none⟩) _ rfl
              have hkA : ((w3.setCell ⟨B, 4, none⟩ (.slice wa n3 wc)).setCell ⟨B, 3, none⟩ (.slice va 0 (uc - 1))).heap[B]? = some (.cells #[.int .i64 (S1.n : Int), .slice vx us.length (bc - 1), .bool S1.busy, .slice va 0 (uc - 1), .slice wa n3 wc] 42) := by
                have k1 := set_same (o := 4) (.slice wa n3 wc) ((HX3.out.block B (by omega)).trans HQ.out.pk.bw)
                have k2 := set_same (o := 3) (.slice va 0 (uc - 1)) k1
                rw [k2]
                simp
              have hUA : UsB (RpE D B) ((w3.setCell ⟨B, 4, none⟩ (.slice wa n3 wc)).setCell ⟨B, 3, none⟩ (.slice va 0 (uc - 1))) (.slice wa n3 wc) (t9 ++ [y]) := by
                have h8 := HV3.out
                rw [List.nil_append] at h8
                have en : n3 = (t9 ++ [y]).length := by rw [HN3.out]; simp
                have h9 : w3.ownsRow T6.heap.size 43 1 (.slice wa n3 wc) (t9 ++ [y]).length ((t9 ++ [y]).map W1) := by
                  rw [List.map_append, ← en]
                  exact h8
                exact ((usB_of_own h9 (D := fun k => k < T6.heap.size) fun _ h => h).fr (hfA.wide fun k hk => by omega)).mono fun k hk => by
                  rcases hk with hk | hk
                  · have := hb k hk; omega
                  · omega
              have HK8 : Hid (RpIn D B { S1 with l := [], t := t9 ++ [y] } M R (.slice vx us.length (bc - 1)) (.slice va 0 (uc - 1)) (.slice wa n3 wc) r e w wr ((w3.setCell ⟨B, 4, none⟩ (.slice wa n3 wc)).setCell ⟨B, 3, none⟩ (.slice va 0 (uc - 1)))) := by
                obtain ⟨us8, h1, h2⟩ := HQ.out.pk.vs.b
                exact Lib.hid ((HQ.out.pk.grow HX3.out).lay (S' := { S1 with l := [], t := t9 ++ [y] }) hfA hkA ⟨⟨us8, (h1.ext HX3.out).fr (hfA.wide fun k hk => .inr (by omega)), h2⟩, ⟨_, _, _, rfl⟩, ⟨_, _, _, rfl⟩, fun _ => HVL.out, fun _ => hUA⟩)
              have HR8 := Lib.hid ((HQ.out.ref.ext HX3.out).fd hfA (fun k hk => .inr (by omega)))
              have HBD8 := Lib.hid ((hfA.block bd (Nat.lt_of_lt_of_le (heap_lt HQ.out.box) HX3.out.size) (by omega)).trans ((HX3.out.block bd (heap_lt HQ.out.box)).trans HQ.out.box))
              have HU8 := Lib.hid hUA
              clear hUA hkA hfA c0 c1 c2 c3 c4 cz ll HV3 HX3 HX2 HV2 HQ HVL HEVA HNW H0 HT2
              replace HK8 := HK8.out
              replace HR8 := HR8.out
              replace HBD8 := HBD8.out
              replace HU8 := HU8.out
              generalize (World.setCell _ (⟨B, 3, none⟩ : Addr) _) = T8 at HK8 HR8 HBD8 HU8 ⊢
              replace HK8 := Lib.hid HK8
              replace HR8 := Lib.hid HR8
              replace HBD8 := Lib.hid HBD8
              replace HU8 := Lib.hid HU8
              obtain ⟨c0, c1, c2, c3, c4, cz, ll⟩ := fiv_of HK8.out.bw
              simp only at c0 c2
              rw [HBU.out] at c2
              go_wp2
              have hf5 : FD (fun k => k = B) T8 (T8.setCell ⟨B, 2, none⟩ (.bool false)) := (FD.refl (fun k => k = B) T8).set (p := ⟨B, 2, none⟩) _ rfl
              have hk5 : (T8.setCell ⟨B, 2, none⟩ (.bool false)).heap[B]? = some (.cells #[.int .i64 (S1.n : Int), .slice vx us.length (bc - 1), .bool false, .slice va 0 (uc - 1), .slice wa n3 wc] 42) := by
                have k1 := set_same (o := 2) (.bool false) HK8.out.bw
                rw [k1]
                simp
              have HK9 : Hid (RpIn D B S1.rest M R (.slice vx us.length (bc - 1)) (.slice va 0 (uc - 1)) (.slice wa n3 wc) r e w wr (T8.setCell ⟨B, 2, none⟩ (.bool false))) :=
                Lib.hid (HK8.out.lay (S' := S1.rest) hf5 hk5 (((HK8.out.vs.fr (hf5.wide fun k hk => .inr (by omega))).rests _ _ ⟨_, _, _, rfl⟩ ⟨_, _, _, rfl⟩)))
              have HU := Lib.hid (HU8.out.fr (hf5.wide fun k hk => .inr (by omega)))
              have HR := Lib.hid (HR8.out.fd hf5 (fun k hk => .inr (by omega)))
              have HBD9 := Lib.hid ((hf5.block bd (heap_lt HBD8.out) (by omega)).trans HBD8.out)
              clear c0 c1 c2 c3 c4 cz ll hf5 hk5 HK8 HU8 HR8 HBD8
              generalize T8.setCell ⟨B, 2, none⟩ (.bool false) = T9 at HK9 HU HR HBD9 ⊢
              obtain ⟨c0, c1, c2, c3, c4, cz, ll⟩ := fiv_of HK9.out.bw

              have m0 : T9.cell? ⟨bd, 0, none⟩ = some (.slice R2.wa M2.n R2.wc) := cell_at HBD9.out rfl
              have m1 : T9.cell? ⟨bd, 1, none⟩ = some (.slice R2.ea M2.n R2.ec) := cell_at HBD9.out rfl
              have m2 : T9.cell? ⟨bd, 2, none⟩ = some (.int .i64 M2.ct) := cell_at HBD9.out rfl
              have ml := heap_lt HBD9.out

              have HKE := Lib.hid (HK9.out.grow (ext_drew (ext_refl T9)))
              have hb3 : B < B + 3 := by omega
              have hb31 : B + 1 < B + 3 := by omega
              have hBT : B + 6 ≤ T9.heap.size := HK9.out.big
              have hBTd : B + 6 ≤ T9.drew.heap.size := HKE.out.big
              have F0 : Fr (B + 3) (B + 6) T9 T9.drew := .of_ext (ext_drew (ext_refl T9))
              refine wp_region_mix (fun y => ∃ s, y = off (B + 3) (B + 6) T9 s) [(0, [0, 1, 2, 3, 4]), (1, [5]), (1, [6]), (1, [7])] (by kernel_rfl) (by kernel_rfl) (off_of F0) ?_
              simp only [pieces, pickL, List.map_cons, List.map_nil, List.getD_cons_zero, List.getD_cons_succ]
              refine mix_reads ?_
              repeat (go_big_quiet_step (fail))
              refine wpQuiet_nil (mix_acts ?_)
              obtain ⟨e0, e1, e2, e3, e4, ez, el⟩ := fiv_of HKE.out.r3
              have g0 : T9.drew.cell? ⟨B + 4, 0, none⟩ = some (.slice none 0 0) := cell_at HKE.out.r4 rfl
              have g1 : T9.drew.cell? ⟨B + 4, 1, none⟩ = some (.slice none 0 0) := cell_at HKE.out.r4 rfl
              have g2 : T9.drew.cell? ⟨B + 4, 2, none⟩ = some (.int .i64 0) := cell_at HKE.out.r4 rfl
              have gz := fun o => free_at (o := o) HKE.out.r4
              have gl := heap_lt HKE.out.r4
              have j0 : T9.drew.cell? ⟨B + 5, 0, none⟩ = some (.int .i64 0) := cell_at HKE.out.r5 rfl
              have j1 : T9.drew.cell? ⟨B + 5, 1, none⟩ = some (.slice none 0 0) := cell_at HKE.out.r5 rfl
              have jz := fun o => free_at (o := o) HKE.out.r5
              have jl := heap_lt HKE.out.r5
              have hRE := Lib.hid (HR.out.ext (ext_drew (ext_refl T9)))
              have hUE := Lib.hid (HU.out.fr (.of_ext (ext_drew (ext_refl T9))))
              generalize T9.drew = Td at *
              have F1 := ((((F0.set (p := ⟨B + 3, 0, none⟩) (.int .i64 (S1.n : Int)) (by simp) (by simp)).set (p := ⟨B + 3, 1, none⟩) (.slice vx us.length (bc - 1)) (by simp) (by simp)).set (p := ⟨B + 3, 2, none⟩) (.bool false) (by simp) (by simp)).set (p := ⟨B + 3, 3, none⟩) (.slice va 0 (uc - 1)) (by simp) (by simp)).set (p := ⟨B + 3, 4, none⟩) (.slice wa n3 wc) (by simp) (by simp)
              have F2 := ((F1.set (p := ⟨B + 4, 0, none⟩) (.slice R2.wa M2.n R2.wc) (by simp) (by simp)).set (p := ⟨B + 4, 1, none⟩) (.slice R2.ea M2.n R2.ec) (by simp) (by simp)).set (p := ⟨B + 4, 2, none⟩) (.int .i64 M2.ct) (by simp) (by simp)
              have F3 := (F2.set (p := ⟨B + 5, 0, none⟩) (.int .i64 (2 : Int)) (by simp) (by simp)).set (p := ⟨B + 5, 1, none⟩) (.slice wa n3 wc) (by simp) (by simp)
              have FF := Lib.hid (And.intro F1 (And.intro F2 F3))
              clear F1 F2 F3 F0
              skip
              go_wp2
              refine mixQ_mk (off_of FF.out.1) (mix_acts ?_)
              go_wp2
              refine mixQ_mk (off_of FF.out.2.1) (mix_acts ?_)
              go_wp2
              refine mixQ_mk (off_of FF.out.2.2) (mix_end ?_)
              go_wp2
              have hend := HKE.out.endsN hRE.out x 2 (t9 ++ [y]) wa n3 wc (by rw [HN3.out]; simp) (by rw [← HX.out, HE.out]) hUE.out
              unfold putE at hend
              exact bodyPost_ret (v := .tuple #[wV S1.rest (.slice vx us.length (bc - 1)) (.slice va 0 (uc - 1)) (.slice wa n3 wc), refV R2 M2, .agg #[.int .i64 2, .slice wa n3 wc]]) (by simp only [results, Try.results19, go_sem]; simp [go_sem, e0, e1, e2, e3, e4, g0, g1, g2, j0, j1, wV, refV]) rfl hend
            | cons a2 l2 =>
              have HE : Hid (goF r e M S1 = (M2, { S1 with l := a2 :: l2, t := (t9) ++ [y] }, 1, [])) := Lib.hid (by rw [goF_step (HSL.out.trans HL.out) HDO.out.1, HDO.out.2.1, HDO.out.2.2, HST.out])
              go_upto_region 17 with (at_builtin; refine wpList_append_own _ rfl (.tmp 63) (.tmp 65) 31 rfl T6.heap.size 43 iU (.int .u64 0) 1 8 Try.underlying31 hiU hy0 hy1 hy2 rfl (by decide) v2 (0 + t9.length) ([] ++ (t9).map W1) rfl (own_ext' HV2.out (ext_alloc _ (ext_refl w2))) ⟨w2.heap.size, 0, none⟩ 1 1 [.int .u64 (U y)] rfl rfl (newp _ _ _ _ rfl) (by simp [Value.oneCell']) (by unfold maxLen; omega) (by omega) (by have := HX2.out.size; simp; omega) ?_; intro v3 w3 hv3 hg3 hn3; obtain ⟨wa, wc, rfl⟩ := own_shape hv3; obtain ⟨n3, en3⟩ : ∃ n3, n3 = 0 + t9.length + 1 := ⟨_, rfl⟩; have HX3 := Lib.hid (ext_own (w := T6) (ext_alloc _ HX2.out) (own_ext' HV2.out (ext_alloc _ (ext_refl w2))) hg3); rw [← en3] at hv3 ⊢; have HV3 := Lib.hid hv3; have HN3 := Lib.hid en3; clear hv3 hg3 hn3 en3; have hkk := (HX3.out.block B (by omega)).trans HQ.out.pk.bw; obtain ⟨c0, c1, c2, c3, c4, cz, ll⟩ := fiv_of hkk; rw [HLN.out, HLA.out] at c3; rw [HBU.out] at c2; clear hkk)
              try rw [← HEVA.out]
              have hfA : FD (fun k => k = B) w3 ((w3.setCell ⟨B, 4, none⟩ (.slice wa n3 wc)).setCell ⟨B, 3, none⟩ (.slice va (l2.length + 1) (uc - 1))) := ((FD.refl (fun k => k = B) w3).set (p := ⟨B, 4, none⟩) _ rfl).set (p := ⟨B, 3, none⟩) _ rfl
              have hkA : ((w3.setCell ⟨B, 4, none⟩ (.slice wa n3 wc)).setCell ⟨B, 3, none⟩ (.slice va (l2.length + 1) (uc - 1))).heap[B]? = some (.cells #[.int .i64 (S1.n : Int), .slice vx us.length (bc - 1), .bool S1.busy, .slice va (l2.length + 1) (uc - 1), .slice wa n3 wc] 42) := by
                have k1 := set_same (o := 4) (.slice wa n3 wc) ((HX3.out.block B (by omega)).trans HQ.out.pk.bw)
                have k2 := set_same (o := 3) (.slice va (l2.length + 1) (uc - 1)) k1
                rw [k2]
                simp
              have hUA : UsB (RpE D B) ((w3.setCell ⟨B, 4, none⟩ (.slice wa n3 wc)).setCell ⟨B, 3, none⟩ (.slice va (l2.length + 1) (uc - 1))) (.slice wa n3 wc) (t9 ++ [y]) := by
                have h8 := HV3.out
                rw [List.nil_append] at h8
                have en : n3 = (t9 ++ [y]).length := by rw [HN3.out]; simp
                have h9 : w3.ownsRow T6.heap.size 43 1 (.slice wa n3 wc) (t9 ++ [y]).length ((t9 ++ [y]).map W1) := by
                  rw [List.map_append, ← en]
                  exact h8
                exact ((usB_of_own h9 (D := fun k => k < T6.heap.size) fun _ h => h).fr (hfA.wide fun k hk => by omega)).mono fun k hk => by
                  rcases hk with hk | hk
                  · have := hb k hk; omega
                  · omega
              have HK8 : Hid (RpIn D B { S1 with l := a2 :: l2, t := t9 ++ [y] } M R (.slice vx us.length (bc - 1)) (.slice va (l2.length + 1) (uc - 1)) (.slice wa n3 wc) r e w wr ((w3.setCell ⟨B, 4, none⟩ (.slice wa n3 wc)).setCell ⟨B, 3, none⟩ (.slice va (l2.length + 1) (uc - 1)))) := by
                obtain ⟨us8, h1, h2⟩ := HQ.out.pk.vs.b
                exact Lib.hid ((HQ.out.pk.grow HX3.out).lay (S' := { S1 with l := a2 :: l2, t := t9 ++ [y] }) hfA hkA ⟨⟨us8, (h1.ext HX3.out).fr (hfA.wide fun k hk => .inr (by omega)), h2⟩, ⟨_, _, _, rfl⟩, ⟨_, _, _, rfl⟩, fun _ => HVL.out, fun _ => hUA⟩)
              have HR8 := Lib.hid ((HQ.out.ref.ext HX3.out).fd hfA (fun k hk => .inr (by omega)))
              have HBD8 := Lib.hid ((hfA.block bd (Nat.lt_of_lt_of_le (heap_lt HQ.out.box) HX3.out.size) (by omega)).trans ((HX3.out.block bd (heap_lt HQ.out.box)).trans HQ.out.box))
              have HU8 := Lib.hid hUA
              clear hUA hkA hfA c0 c1 c2 c3 c4 cz ll HV3 HX3 HX2 HV2 HQ HVL HEVA HNW H0 HT2
              replace HK8 := HK8.out
              replace HR8 := HR8.out
              replace HBD8 := HBD8.out
              replace HU8 := HU8.out
              generalize (World.setCell _ (⟨B, 3, none⟩ : Addr) _) = T8 at HK8 HR8 HBD8 HU8 ⊢
              replace HK8 := Lib.hid HK8
              replace HR8 := Lib.hid HR8
              replace HBD8 := Lib.hid HBD8
              replace HU8 := Lib.hid HU8
              obtain ⟨c0, c1, c2, c3, c4, cz, ll⟩ := fiv_of HK8.out.bw
              simp only at c0 c2
              rw [HBU.out] at c2
              go_wp2
              have HR := HR8
              have HU : Hid (UsB (RpE D B) T8 (.slice none 0 0) []) := Lib.hid (UsB.nil _ _)

              have m0 : T8.cell? ⟨bd, 0, none⟩ = some (.slice R2.wa M2.n R2.wc) := cell_at HBD8.out rfl
              have m1 : T8.cell? ⟨bd, 1, none⟩ = some (.slice R2.ea M2.n R2.ec) := cell_at HBD8.out rfl
              have m2 : T8.cell? ⟨bd, 2, none⟩ = some (.int .i64 M2.ct) := cell_at HBD8.out rfl
              have ml := heap_lt HBD8.out

              have HKE := Lib.hid (HK8.out.grow (ext_drew (ext_refl T8)))
              have hb3 : B < B + 3 := by omega
              have hb31 : B + 1 < B + 3 := by omega
              have hBT : B + 6 ≤ T8.heap.size := HK8.out.big
              have hBTd : B + 6 ≤ T8.drew.heap.size := HKE.out.big
              have F0 : Fr (B + 3) (B + 6) T8 T8.drew := .of_ext (ext_drew (ext_refl T8))
              refine wp_region_mix (fun y => ∃ s, y = off (B + 3) (B + 6) T8 s) [(0, [0, 1, 2]), (1, [3]), (1, [4]), (1, [5])] (by kernel_rfl) (by kernel_rfl) (off_of F0) ?_
              simp only [pieces, pickL, List.map_cons, List.map_nil, List.getD_cons_zero, List.getD_cons_succ]
              refine mix_reads ?_
              repeat (go_big_quiet_step (fail))
              refine wpQuiet_nil (mix_acts ?_)
              obtain ⟨e0, e1, e2, e3, e4, ez, el⟩ := fiv_of HKE.out.r3
              have g0 : T8.drew.cell? ⟨B + 4, 0, none⟩ = some (.slice none 0 0) := cell_at HKE.out.r4 rfl
              have g1 : T8.drew.cell? ⟨B + 4, 1, none⟩ = some (.slice none 0 0) := cell_at HKE.out.r4 rfl
              have g2 : T8.drew.cell? ⟨B + 4, 2, none⟩ = some (.int .i64 0) := cell_at HKE.out.r4 rfl
              have gz := fun o => free_at (o := o) HKE.out.r4
              have gl := heap_lt HKE.out.r4
              have j0 : T8.drew.cell? ⟨B + 5, 0, none⟩ = some (.int .i64 0) := cell_at HKE.out.r5 rfl
              have j1 : T8.drew.cell? ⟨B + 5, 1, none⟩ = some (.slice none 0 0) := cell_at HKE.out.r5 rfl
              have jz := fun o => free_at (o := o) HKE.out.r5
              have jl := heap_lt HKE.out.r5
              have hRE := Lib.hid (HR.out.ext (ext_drew (ext_refl T8)))
              have hUE := Lib.hid (HU.out.fr (.of_ext (ext_drew (ext_refl T8))))
              generalize T8.drew = Td at *
              have F1 := ((((F0.set (p := ⟨B + 3, 0, none⟩) (.int .i64 (S1.n : Int)) (by simp) (by simp)).set (p := ⟨B + 3, 1, none⟩) (.slice vx us.length (bc - 1)) (by simp) (by simp)).set (p := ⟨B + 3, 2, none⟩) (.bool true) (by simp) (by simp)).set (p := ⟨B + 3, 3, none⟩) (.slice va (l2.length + 1) (uc - 1)) (by simp) (by simp)).set (p := ⟨B + 3, 4, none⟩) (.slice wa n3 wc) (by simp) (by simp)
              have F2 := ((F1.set (p := ⟨B + 4, 0, none⟩) (.slice R2.wa M2.n R2.wc) (by simp) (by simp)).set (p := ⟨B + 4, 1, none⟩) (.slice R2.ea M2.n R2.ec) (by simp) (by simp)).set (p := ⟨B + 4, 2, none⟩) (.int .i64 M2.ct) (by simp) (by simp)
              have F3 := (F2.set (p := ⟨B + 5, 0, none⟩) (.int .i64 (1 : Int)) (by simp) (by simp)).set (p := ⟨B + 5, 1, none⟩) (.slice none 0 0) (by simp) (by simp)
              have FF := Lib.hid (And.intro F1 (And.intro F2 F3))
              clear F1 F2 F3 F0
              skip
              go_wp2
              refine mixQ_mk (off_of FF.out.1) (mix_acts ?_)
              go_wp2
              refine mixQ_mk (off_of FF.out.2.1) (mix_acts ?_)
              go_wp2
              refine mixQ_mk (off_of FF.out.2.2) (mix_end ?_)
              go_wp2
              have hend := HKE.out.ends hRE.out x 1 [] none 0 (by rw [← HX.out, HE.out]) hUE.out
              unfold putE wV at hend
              simp only [HBU.out] at hend
              exact bodyPost_ret (v := .tuple #[.agg #[.int .i64 (S1.n : Int), .slice vx us.length (bc - 1), .bool true, .slice va (l2.length + 1) (uc - 1), .slice wa n3 wc], refV R2 M2, .agg #[.int .i64 1, .slice none 0 0]]) (by simp only [results, Try.results19, go_sem]; simp [go_sem, e0, e1, e2, e3, e4, g0, g1, g2, j0, j1, refV]) rfl hend

        · simp only [pickL, List.map_cons, List.map_nil, List.getD_cons_zero, List.getD_cons_succ]
          go_wp2
          obtain ⟨V, hV⟩ : ∃ V, V = T4.drew.alloc (.cells #[.slice none 0 0, .slice none 0 0, .int .i64 0] 33) := ⟨_, rfl⟩
          obtain ⟨bd, hbd⟩ : ∃ bd, bd = T4.heap.size := ⟨_, rfl⟩
          first | rw [← hV, ← hbd] | (rw [show (T4.alloc (.cells #[.slice none 0 0, .slice none 0 0, .int .i64 0] 33)).drew = T4.drew.alloc (.cells #[.slice none 0 0, .slice none 0 0, .int .i64 0] 33) from rfl, ← hV, ← hbd])
          have HEV : Hid (Ext T4 V) := Lib.hid (by rw [hV]; exact ext_alloc _ (ext_drew (ext_refl T4)))
          have HBD : Hid (V.heap[bd]? = some (.cells #[.slice none 0 0, .slice none 0 0, .int .i64 0] 33)) := Lib.hid (by rw [hV]; exact heap_at _ _ _ hbd)
          have HBd : Hid (T4.heap.size ≤ bd) := Lib.hid (by rw [hbd]; exact Nat.le_refl _)
          have HRV : Hid (RefIn (fun b => ¬ RpE D B b ∧ b ≠ bd) R M V) := Lib.hid (by rw [hV, hbd]; exact (HK.out.ref.ext (ext_drew (ext_refl T4))).avoid _)
          clear hV hbd
          refine mixQ_mk (over_of HEV.out) (ways_act 6 (by kernel_rfl) ?_)
          simp only [pickL, List.map_cons, List.map_nil, List.getD_cons_zero, List.getD_cons_succ]
          go_wp2_with (go_at_call 38; refine (rdo_any HRV.out r e a1 y okb HSP.out).mono ?_; rintro en X1 ⟨R2, rfl, hr, hx⟩; have HR2 := Lib.hid hr; have HX1 := Lib.hid (ext_trans HEV.out hx); have HBD1 := Lib.hid ((hx.block bd (heap_lt HBD.out)).trans HBD.out); clear hr hx; unfold refV)
          refine mixQ_mk (over_of HX1.out) (ways_reads [7, 8, 9, 10] (by kernel_rfl) ?_)
          simp only [pickL, List.map_cons, List.map_nil, List.getD_cons_zero, List.getD_cons_succ]
          repeat (go_big_quiet_step (fail))
          refine wpQuiet_nil (ways_act 12 (by kernel_rfl) ?_)
          simp only [pickL, List.map_cons, List.map_nil, List.getD_cons_zero, List.getD_cons_succ]
          have p0 : X1.cell? ⟨bd, 0, none⟩ = some (.slice none 0 0) := cell_at HBD1.out rfl
          have p1 : X1.cell? ⟨bd, 1, none⟩ = some (.slice none 0 0) := cell_at HBD1.out rfl
          have p2 : X1.cell? ⟨bd, 2, none⟩ = some (.int .i64 0) := cell_at HBD1.out rfl
          have pz := fun o => free_at (o := o) HBD1.out
          have pl := heap_lt HBD1.out
          have hbdn : ¬ (¬ RpE D B bd ∧ bd ≠ bd) := fun h => h.2 rfl
          have HQ : Hid (RpQ D B S1 M R (.slice vx us.length (bc - 1)) (.slice ua l0.length uc) (.slice ta9 t9.length tc9) r e w wr bd M2 R2 (((X1.setCell ⟨bd, 0, none⟩ (.slice R2.wa M2.n R2.wc)).setCell ⟨bd, 1, none⟩ (.slice R2.ea M2.n R2.ec)).setCell ⟨bd, 2, none⟩ (.int .i64 M2.ct))) :=
            Lib.hid ⟨HK.out.far HX1.out HBd.out _ _ _, (((HR2.out.setOut (p := ⟨bd, 0, none⟩) _ hbdn).setOut (p := ⟨bd, 1, none⟩) _ hbdn).setOut (p := ⟨bd, 2, none⟩) _ hbdn).mono fun _ h => h.1, put3_block _ _ _ HBD1.out, by have := HK.out.big; have := HBd.out; omega⟩
          have HT2 := Lib.hid (HT.out.late HX1.out HBd.out (.slice R2.wa M2.n R2.wc) (.slice R2.ea M2.n R2.ec) (.int .i64 M2.ct))
          have HZ := Lib.hid (ext_set (.int .i64 M2.ct) (p := ⟨bd, 2, none⟩) HBd.out (ext_set (.slice R2.ea M2.n R2.ec) (p := ⟨bd, 1, none⟩) HBd.out (ext_set (.slice R2.wa M2.n R2.wc) (p := ⟨bd, 0, none⟩) HBd.out HX1.out)))
          go_wp2
          refine mixQ_mk (over_of HZ.out) (ways_reads [13, 14] (by kernel_rfl) ?_)
          simp only [pickL, List.map_cons, List.map_nil, List.getD_cons_zero, List.getD_cons_succ]
          repeat (go_big_quiet_step (fail))
          refine wpQuiet_nil (ways_end (by kernel_rfl) ?_)
          clear p0 p1 p2 pz pl
          replace HQ := HQ.out
          replace HT2 := HT2.out
          generalize (World.setCell _ (⟨bd, 2, none⟩ : Addr) _) = T6 at HQ HT2 ⊢
          replace HQ := Lib.hid HQ
          replace HT2 := Lib.hid HT2
          clear HZ HR2 HX1 HK HT HRV HBD HBD1 HEV HBd hbdn
          cases okb with
          | false =>
            have HE : Hid (goF r e M S1 = (M, S1.rest, 3, [])) := by
              rcases HSP.out with ⟨_, _, _, h⟩ | ⟨hd, _⟩
              · cases h
              · exact Lib.hid (goF_no (HSL.out.trans HL.out) hd)
            obtain ⟨c0, c1, c2, c3, c4, cz, ll⟩ := fiv_of HQ.out.pk.bw
            have m0 : T6.cell? ⟨B + 1, 0, none⟩ = some (.slice R.wa M.n R.wc) := cell_at HQ.out.pk.bm rfl
            have m1 : T6.cell? ⟨B + 1, 1, none⟩ = some (.slice R.ea M.n R.ec) := cell_at HQ.out.pk.bm rfl
            have m2 : T6.cell? ⟨B + 1, 2, none⟩ = some (.int .i64 M.ct) := cell_at HQ.out.pk.bm rfl
            have ml := heap_lt HQ.out.pk.bm

            rw [HBU.out] at c2
            go_wp2
            have hf5 : FD (fun k => k = B) T6 (T6.setCell ⟨B, 2, none⟩ (.bool false)) := (FD.refl (fun k => k = B) T6).set (p := ⟨B, 2, none⟩) _ rfl
            have hk5 : (T6.setCell ⟨B, 2, none⟩ (.bool false)).heap[B]? = some (.cells #[.int .i64 (S1.n : Int), .slice vx us.length (bc - 1), .bool false, .slice ua l0.length uc, .slice ta9 t9.length tc9] 42) := by
              have k1 := set_same (o := 2) (.bool false) HQ.out.pk.bw
              rw [k1]
              simp
            have HK7 : Hid (RpIn D B S1.rest M R (.slice vx us.length (bc - 1)) (.slice ua l0.length uc) (.slice ta9 t9.length tc9) r e w wr (T6.setCell ⟨B, 2, none⟩ (.bool false))) :=
              Lib.hid (HQ.out.pk.lay (S' := S1.rest) hf5 hk5 (((HQ.out.pk.vs.fr (hf5.wide fun k hk => .inr (by omega))).rests _ _ ⟨_, _, _, rfl⟩ ⟨_, _, _, rfl⟩)))
            clear c0 c1 c2 c3 c4 cz ll m0 m1 m2 ml hf5 hk5 HQ HT2
            generalize T6.setCell ⟨B, 2, none⟩ (.bool false) = T7 at HK7 ⊢
            have HR := Lib.hid HK7.out.ref
            have HU : Hid (UsB (RpE D B) T7 (.slice none 0 0) []) := Lib.hid (UsB.nil _ _)
            obtain ⟨c0, c1, c2, c3, c4, cz, ll⟩ := fiv_of HK7.out.bw
            have m0 : T7.cell? ⟨B + 1, 0, none⟩ = some (.slice R.wa M.n R.wc) := cell_at HK7.out.bm rfl
            have m1 : T7.cell? ⟨B + 1, 1, none⟩ = some (.slice R.ea M.n R.ec) := cell_at HK7.out.bm rfl
            have m2 : T7.cell? ⟨B + 1, 2, none⟩ = some (.int .i64 M.ct) := cell_at HK7.out.bm rfl
            have ml := heap_lt HK7.out.bm
            have HKE := Lib.hid (HK7.out.grow (ext_drew (ext_refl T7)))
            have hb3 : B < B + 3 := by omega
            have hb31 : B + 1 < B + 3 := by omega
            have hBT : B + 6 ≤ T7.heap.size := HK7.out.big
            have hBTd : B + 6 ≤ T7.drew.heap.size := HKE.out.big
            have F0 : Fr (B + 3) (B + 6) T7 T7.drew := .of_ext (ext_drew (ext_refl T7))
            refine wp_region_mix (fun y => ∃ s, y = off (B + 3) (B + 6) T7 s) [(0, [0, 1, 2]), (1, [3]), (1, [4]), (1, [5])] (by kernel_rfl) (by kernel_rfl) (off_of F0) ?_
            simp only [pieces, pickL, List.map_cons, List.map_nil, List.getD_cons_zero, List.getD_cons_succ]
            refine mix_reads ?_
            repeat (go_big_quiet_step (fail))
            refine wpQuiet_nil (mix_acts ?_)
            obtain ⟨e0, e1, e2, e3, e4, ez, el⟩ := fiv_of HKE.out.r3
            have g0 : T7.drew.cell? ⟨B + 4, 0, none⟩ = some (.slice none 0 0) := cell_at HKE.out.r4 rfl
            have g1 : T7.drew.cell? ⟨B + 4, 1, none⟩ = some (.slice none 0 0) := cell_at HKE.out.r4 rfl
            have g2 : T7.drew.cell? ⟨B + 4, 2, none⟩ = some (.int .i64 0) := cell_at HKE.out.r4 rfl
            have gz := fun o => free_at (o := o) HKE.out.r4
            have gl := heap_lt HKE.out.r4
            have j0 : T7.drew.cell? ⟨B + 5, 0, none⟩ = some (.int .i64 0) := cell_at HKE.out.r5 rfl
            have j1 : T7.drew.cell? ⟨B + 5, 1, none⟩ = some (.slice none 0 0) := cell_at HKE.out.r5 rfl
            have jz := fun o => free_at (o := o) HKE.out.r5
            have jl := heap_lt HKE.out.r5
            have hRE := Lib.hid (HR.out.ext (ext_drew (ext_refl T7)))
            have hUE := Lib.hid (HU.out.fr (.of_ext (ext_drew (ext_refl T7))))
            generalize T7.drew = Td at *
            have F1 := ((((F0.set (p := ⟨B + 3, 0, none⟩) (.int .i64 (S1.n : Int)) (by simp) (by simp)).set (p := ⟨B + 3, 1, none⟩) (.slice vx us.length (bc - 1)) (by simp) (by simp)).set (p := ⟨B + 3, 2, none⟩) (.bool false) (by simp) (by simp)).set (p := ⟨B + 3, 3, none⟩) (.slice ua l0.length uc) (by simp) (by simp)).set (p := ⟨B + 3, 4, none⟩) (.slice ta9 t9.length tc9) (by simp) (by simp)
            have F2 := ((F1.set (p := ⟨B + 4, 0, none⟩) (.slice R.wa M.n R.wc) (by simp) (by simp)).set (p := ⟨B + 4, 1, none⟩) (.slice R.ea M.n R.ec) (by simp) (by simp)).set (p := ⟨B + 4, 2, none⟩) (.int .i64 M.ct) (by simp) (by simp)
            have F3 := (F2.set (p := ⟨B + 5, 0, none⟩) (.int .i64 (3 : Int)) (by simp) (by simp)).set (p := ⟨B + 5, 1, none⟩) (.slice none 0 0) (by simp) (by simp)
            have FF := Lib.hid (And.intro F1 (And.intro F2 F3))
            clear F1 F2 F3 F0
            skip
            go_wp2
            refine mixQ_mk (off_of FF.out.1) (mix_acts ?_)
            go_wp2
            refine mixQ_mk (off_of FF.out.2.1) (mix_acts ?_)
            go_wp2
            refine mixQ_mk (off_of FF.out.2.2) (mix_end ?_)
            go_wp2
            have hend := HKE.out.ends hRE.out x 3 [] none 0 (by rw [← HX.out, HE.out]) hUE.out
            unfold putE at hend
            exact bodyPost_ret (v := .tuple #[wV S1.rest (.slice vx us.length (bc - 1)) (.slice ua l0.length uc) (.slice ta9 t9.length tc9), refV R M, .agg #[.int .i64 3, .slice none 0 0]]) (by simp only [results, Try.results19, go_sem]; simp [go_sem, e0, e1, e2, e3, e4, g0, g1, g2, j0, j1, wV, refV]) rfl hend

          | true =>
            obtain ⟨hd, hM2, hy⟩ : DoOk M r e a1.op a1.at_ ∧ M2 = M.done r a1.op a1.at_ a1.a a1.b ∧ y = M.wd r.toNat a1.at_.toNat := by
              rcases HSP.out with ⟨h1, h2, h3, _⟩ | ⟨_, _, _, h⟩
              · exact ⟨h1, h2, h3⟩
              · cases h
            have HDO := Lib.hid (And.intro hd (And.intro hM2 hy))
            clear hd hM2 hy HSP
            obtain ⟨c0, c1, c2, c3, c4, cz, ll⟩ := fiv_of HQ.out.pk.bw
            have m0 : T6.cell? ⟨B + 1, 0, none⟩ = some (.slice R.wa M.n R.wc) := cell_at HQ.out.pk.bm rfl
            have m1 : T6.cell? ⟨B + 1, 1, none⟩ = some (.slice R.ea M.n R.ec) := cell_at HQ.out.pk.bm rfl
            have m2 : T6.cell? ⟨B + 1, 2, none⟩ = some (.int .i64 M.ct) := cell_at HQ.out.pk.bm rfl
            have ml := heap_lt HQ.out.pk.bm

            rw [HLN.out, HLA.out] at c3
            rw [HBU.out] at c2
            have H0 : Hid (ta9 = none → t9.length = 0) := Lib.hid (by
              first
                | exact fun _ => rfl
                | (intro e0; obtain ⟨a9, c9, e9, _, h9⟩ := HT2.out; simp at e9; obtain ⟨rfl, rfl⟩ := e9; by_cases hp : 0 < t9.length
                   · obtain ⟨b9, o9, ea9, _⟩ := h9 hp; rw [e0] at ea9; cases ea9
                   · omega))
            have HNW : Hid (∀ ad, ta9 = some ad → ∀ j u, ((t9).map W1)[j]? = some u → (T6.alloc (.cells #[] 43)).cell? (ad.add j) = some u) := Lib.hid (by
              intro ad ea
              first
                | (cases ea; done)
                | exact news_us (by rw [← ea]; exact HT2.out.us.ext (ext_alloc _ (ext_refl T6))))
            have h6 := HQ.out.pk.big
            have hfar := HQ.out.far
            go_wp2_with (at_builtin; refine Hid.out ?_)
            refine Lib.hid ?_
            refine wpList_append_opt rfl (.tmp 60) (.tmp 62) 31 rfl T6.heap.size 43 iU (.int .u64 0) 1 8 Try.underlying31 hiU hy0 hy1 hy2 rfl (by decide) (.slice (some ⟨T6.heap.size, 0, none⟩) 0 0) 0 [] rfl (own_none _ _ _ _ _ rfl (Nat.le_refl _)) ta9 (t9.length) tc9 ((t9).map W1) rfl H0.out (by simp) HNW.out (ones_us _) (by unfold maxLen; omega) (by omega) (by simp) ?_
            intro v2 w2 hv2 hg2
            have HV2 := Lib.hid hv2
            have HX2 := Lib.hid (ext_own (w := T6) (ext_alloc _ (ext_refl T6)) (own_none T6 T6.heap.size 43 1 T6.heap.size rfl (Nat.le_refl _)) hg2)
            clear hv2 hg2 c0 c1 c2 c3 c4 cz ll m0 m1 m2 ml
            have hva : ∃ va, va = (if uc = 1 then some (⟨b1, o1, none⟩ : Addr) else some ⟨b1, o1 + 4, none⟩) ∧ (0 < l1.length → va = some ⟨b1, o1 + 4, none⟩) := ⟨_, rfl, fun h => if_neg (by have h8 := HA.out; have h7 := HLN.out; obtain ⟨_, _, e8, h9, _⟩ := h8; simp at e8; omega)⟩
            obtain ⟨va, eva, hva⟩ := hva
            have HVL : Hid (AsB (fun _ => False) w (.slice va l1.length (uc - 1)) l1) := by
              have h8 := HA.out
              rw [HL.out, HLA.out] at h8
              obtain ⟨_, _, e8, h9, _⟩ := id h8
              simp at e8
              exact Lib.hid (AsB.tail (a := a1) h8 va (uc - 1) hva (by simp at h9; omega))
            have HEVA := Lib.hid eva
            clear hva eva
            cases l1 with
            | nil =>
              have HE : Hid (goF r e M S1 = (M2, S1.rest, 2, (t9) ++ [y])) := Lib.hid (by rw [goF_last (HSL.out.trans HL.out) HDO.out.1, HDO.out.2.1, HDO.out.2.2, HST.out])
              go_upto_region 17 with (at_builtin; refine wpList_append_own _ rfl (.tmp 63) (.tmp 65) 31 rfl T6.heap.size 43 iU (.int .u64 0) 1 8 Try.underlying31 hiU hy0 hy1 hy2 rfl (by decide) v2 (0 + t9.length) ([] ++ (t9).map W1) rfl (own_ext' HV2.out (ext_alloc _ (ext_refl w2))) ⟨w2.heap.size, 0, none⟩ 1 1 [.int .u64 (U y)] rfl rfl (newp _ _ _ _ rfl) (by simp [Value.oneCell']) (by unfold maxLen; omega) (by omega) (by have := HX2.out.size; simp; omega) ?_; intro v3 w3 hv3 hg3 hn3; obtain ⟨wa, wc, rfl⟩ := own_shape hv3; obtain ⟨n3, en3⟩ : ∃ n3, n3 = 0 + t9.length + 1 := ⟨_, rfl⟩; have HX3 := Lib.hid (ext_own (w := T6) (ext_alloc _ HX2.out) (own_ext' HV2.out (ext_alloc _ (ext_refl w2))) hg3); rw [← en3] at hv3 ⊢; have HV3 := Lib.hid hv3; have HN3 := Lib.hid en3; clear hv3 hg3 hn3 en3; have hkk := (HX3.out.block B (by omega)).trans HQ.out.pk.bw; obtain ⟨c0, c1, c2, c3, c4, cz, ll⟩ := fiv_of hkk; rw [HLN.out, HLA.out] at c3; rw [HBU.out] at c2; clear hkk)
              try rw [← HEVA.out]
              have hfA : FD (fun k => k = B) w3 ((w3.setCell ⟨B, 4, none⟩ (.slice wa n3 wc)).setCell ⟨B, 3, none⟩ (.slice va 0 (uc - 1))) := ((FD.refl (fun k => k = B) w3).set (p := ⟨B, 4, none⟩) _ rfl).set (p := ⟨B, 3, none⟩) _ rfl
              have hkA : ((w3.setCell ⟨B, 4, none⟩ (.slice wa n3 wc)).setCell ⟨B, 3, none⟩ (.slice va 0 (uc - 1))).heap[B]? = some (.cells #[.int .i64 (S1.n : Int), .slice vx us.length (bc - 1), .bool S1.busy, .slice va 0 (uc - 1), .slice wa n3 wc] 42) := by
                have k1 := set_same (o := 4) (.slice wa n3 wc) ((HX3.out.block B (by omega)).trans HQ.out.pk.bw)
                have k2 := set_same (o := 3) (.slice va 0 (uc - 1)) k1
                rw [k2]
                simp
              have hUA : UsB (RpE D B) ((w3.setCell ⟨B, 4, none⟩ (.slice wa n3 wc)).setCell ⟨B, 3, none⟩ (.slice va 0 (uc - 1))) (.slice wa n3 wc) (t9 ++ [y]) := by
                have h8 := HV3.out
                rw [List.nil_append] at h8
                have en : n3 = (t9 ++ [y]).length := by rw [HN3.out]; simp
                have h9 : w3.ownsRow T6.heap.size 43 1 (.slice wa n3 wc) (t9 ++ [y]).length ((t9 ++ [y]).map W1) := by
                  rw [List.map_append, ← en]
                  exact h8
                exact ((usB_of_own h9 (D := fun k => k < T6.heap.size) fun _ h => h).fr (hfA.wide fun k hk => by omega)).mono fun k hk => by
                  rcases hk with hk | hk
                  · have := hb k hk; omega
                  · omega
              have HK8 : Hid (RpIn D B { S1 with l := [], t := t9 ++ [y] } M R (.slice vx us.length (bc - 1)) (.slice va 0 (uc - 1)) (.slice wa n3 wc) r e w wr ((w3.setCell ⟨B, 4, none⟩ (.slice wa n3 wc)).setCell ⟨B, 3, none⟩ (.slice va 0 (uc - 1)))) := by
                obtain ⟨us8, h1, h2⟩ := HQ.out.pk.vs.b
                exact Lib.hid ((HQ.out.pk.grow HX3.out).lay (S' := { S1 with l := [], t := t9 ++ [y] }) hfA hkA ⟨⟨us8, (h1.ext HX3.out).fr (hfA.wide fun k hk => .inr (by omega)), h2⟩, ⟨_, _, _, rfl⟩, ⟨_, _, _, rfl⟩, fun _ => HVL.out, fun _ => hUA⟩)
              have HR8 := Lib.hid ((HQ.out.ref.ext HX3.out).fd hfA (fun k hk => .inr (by omega)))
              have HBD8 := Lib.hid ((hfA.block bd (Nat.lt_of_lt_of_le (heap_lt HQ.out.box) HX3.out.size) (by omega)).trans ((HX3.out.block bd (heap_lt HQ.out.box)).trans HQ.out.box))
              have HU8 := Lib.hid hUA
              clear hUA hkA hfA c0 c1 c2 c3 c4 cz ll HV3 HX3 HX2 HV2 HQ HVL HEVA HNW H0 HT2
              replace HK8 := HK8.out
              replace HR8 := HR8.out
              replace HBD8 := HBD8.out
              replace HU8 := HU8.out
              generalize (World.setCell _ (⟨B, 3, none⟩ : Addr) _) = T8 at HK8 HR8 HBD8 HU8 ⊢
              replace HK8 := Lib.hid HK8
              replace HR8 := Lib.hid HR8
              replace HBD8 := Lib.hid HBD8
              replace HU8 := Lib.hid HU8
              obtain ⟨c0, c1, c2, c3, c4, cz, ll⟩ := fiv_of HK8.out.bw
              simp only at c0 c2
              rw [HBU.out] at c2
              go_wp2
              have hf5 : FD (fun k => k = B) T8 (T8.setCell ⟨B, 2, none⟩ (.bool false)) := (FD.refl (fun k => k = B) T8).set (p := ⟨B, 2, none⟩) _ rfl
              have hk5 : (T8.setCell ⟨B, 2, none⟩ (.bool false)).heap[B]? = some (.cells #[.int .i64 (S1.n : Int), .slice vx us.length (bc - 1), .bool false, .slice va 0 (uc - 1), .slice wa n3 wc] 42) := by
                have k1 := set_same (o := 2) (.bool false) HK8.out.bw
                rw [k1]
                simp
              have HK9 : Hid (RpIn D B S1.rest M R (.slice vx us.length (bc - 1)) (.slice va 0 (uc - 1)) (.slice wa n3 wc) r e w wr (T8.setCell ⟨B, 2, none⟩ (.bool false))) :=
                Lib.hid (HK8.out.lay (S' := S1.rest) hf5 hk5 (((HK8.out.vs.fr (hf5.wide fun k hk => .inr (by omega))).rests _ _ ⟨_, _, _, rfl⟩ ⟨_, _, _, rfl⟩)))
              have HU := Lib.hid (HU8.out.fr (hf5.wide fun k hk => .inr (by omega)))
              have HR := Lib.hid (HR8.out.fd hf5 (fun k hk => .inr (by omega)))
              have HBD9 := Lib.hid ((hf5.block bd (heap_lt HBD8.out) (by omega)).trans HBD8.out)
              clear c0 c1 c2 c3 c4 cz ll hf5 hk5 HK8 HU8 HR8 HBD8
              generalize T8.setCell ⟨B, 2, none⟩ (.bool false) = T9 at HK9 HU HR HBD9 ⊢
              obtain ⟨c0, c1, c2, c3, c4, cz, ll⟩ := fiv_of HK9.out.bw

              have m0 : T9.cell? ⟨bd, 0, none⟩ = some (.slice R2.wa M2.n R2.wc) := cell_at HBD9.out rfl
              have m1 : T9.cell? ⟨bd, 1, none⟩ = some (.slice R2.ea M2.n R2.ec) := cell_at HBD9.out rfl
              have m2 : T9.cell? ⟨bd, 2, none⟩ = some (.int .i64 M2.ct) := cell_at HBD9.out rfl
              have ml := heap_lt HBD9.out

              have HKE := Lib.hid (HK9.out.grow (ext_drew (ext_refl T9)))
              have hb3 : B < B + 3 := by omega
              have hb31 : B + 1 < B + 3 := by omega
              have hBT : B + 6 ≤ T9.heap.size := HK9.out.big
              have hBTd : B + 6 ≤ T9.drew.heap.size := HKE.out.big
              have F0 : Fr (B + 3) (B + 6) T9 T9.drew := .of_ext (ext_drew (ext_refl T9))
              refine wp_region_mix (fun y => ∃ s, y = off (B + 3) (B + 6) T9 s) [(0, [0, 1, 2, 3, 4]), (1, [5]), (1, [6]), (1, [7])] (by kernel_rfl) (by kernel_rfl) (off_of F0) ?_
              simp only [pieces, pickL, List.map_cons, List.map_nil, List.getD_cons_zero, List.getD_cons_succ]
              refine mix_reads ?_
              repeat (go_big_quiet_step (fail))
              refine wpQuiet_nil (mix_acts ?_)
              obtain ⟨e0, e1, e2, e3, e4, ez, el⟩ := fiv_of HKE.out.r3
              have g0 : T9.drew.cell? ⟨B + 4, 0, none⟩ = some (.slice none 0 0) := cell_at HKE.out.r4 rfl
              have g1 : T9.drew.cell? ⟨B + 4, 1, none⟩ = some (.slice none 0 0) := cell_at HKE.out.r4 rfl
              have g2 : T9.drew.cell? ⟨B + 4, 2, none⟩ = some (.int .i64 0) := cell_at HKE.out.r4 rfl
              have gz := fun o => free_at (o := o) HKE.out.r4
              have gl := heap_lt HKE.out.r4
              have j0 : T9.drew.cell? ⟨B + 5, 0, none⟩ = some (.int .i64 0) := cell_at HKE.out.r5 rfl
              have j1 : T9.drew.cell? ⟨B + 5, 1, none⟩ = some (.slice none 0 0) := cell_at HKE.out.r5 rfl
              have jz := fun o => free_at (o := o) HKE.out.r5
              have jl := heap_lt HKE.out.r5
              have hRE := Lib.hid (HR.out.ext (ext_drew (ext_refl T9)))
              have hUE := Lib.hid (HU.out.fr (.of_ext (ext_drew (ext_refl T9))))
              generalize T9.drew = Td at *
              have F1 := ((((F0.set (p := ⟨B + 3, 0, none⟩) (.int .i64 (S1.n : Int)) (by simp) (by simp)).set (p := ⟨B + 3, 1, none⟩) (.slice vx us.length (bc - 1)) (by simp) (by simp)).set (p := ⟨B + 3, 2, none⟩) (.bool false) (by simp) (by simp)).set (p := ⟨B + 3, 3, none⟩) (.slice va 0 (uc - 1)) (by simp) (by simp)).set (p := ⟨B + 3, 4, none⟩) (.slice wa n3 wc) (by simp) (by simp)
              have F2 := ((F1.set (p := ⟨B + 4, 0, none⟩) (.slice R2.wa M2.n R2.wc) (by simp) (by simp)).set (p := ⟨B + 4, 1, none⟩) (.slice R2.ea M2.n R2.ec) (by simp) (by simp)).set (p := ⟨B + 4, 2, none⟩) (.int .i64 M2.ct) (by simp) (by simp)
              have F3 := (F2.set (p := ⟨B + 5, 0, none⟩) (.int .i64 (2 : Int)) (by simp) (by simp)).set (p := ⟨B + 5, 1, none⟩) (.slice wa n3 wc) (by simp) (by simp)
              have FF := Lib.hid (And.intro F1 (And.intro F2 F3))
              clear F1 F2 F3 F0
              skip
              go_wp2
              refine mixQ_mk (off_of FF.out.1) (mix_acts ?_)
              go_wp2
              refine mixQ_mk (off_of FF.out.2.1) (mix_acts ?_)
              go_wp2
              refine mixQ_mk (off_of FF.out.2.2) (mix_end ?_)
              go_wp2
              have hend := HKE.out.endsN hRE.out x 2 (t9 ++ [y]) wa n3 wc (by rw [HN3.out]; simp) (by rw [← HX.out, HE.out]) hUE.out
              unfold putE at hend
              exact bodyPost_ret (v := .tuple #[wV S1.rest (.slice vx us.length (bc - 1)) (.slice va 0 (uc - 1)) (.slice wa n3 wc), refV R2 M2, .agg #[.int .i64 2, .slice wa n3 wc]]) (by simp only [results, Try.results19, go_sem]; simp [go_sem, e0, e1, e2, e3, e4, g0, g1, g2, j0, j1, wV, refV]) rfl hend
            | cons a2 l2 =>
              have HE : Hid (goF r e M S1 = (M2, { S1 with l := a2 :: l2, t := (t9) ++ [y] }, 1, [])) := Lib.hid (by rw [goF_step (HSL.out.trans HL.out) HDO.out.1, HDO.out.2.1, HDO.out.2.2, HST.out])
              go_upto_region 17 with (at_builtin; refine wpList_append_own _ rfl (.tmp 63) (.tmp 65) 31 rfl T6.heap.size 43 iU (.int .u64 0) 1 8 Try.underlying31 hiU hy0 hy1 hy2 rfl (by decide) v2 (0 + t9.length) ([] ++ (t9).map W1) rfl (own_ext' HV2.out (ext_alloc _ (ext_refl w2))) ⟨w2.heap.size, 0, none⟩ 1 1 [.int .u64 (U y)] rfl rfl (newp _ _ _ _ rfl) (by simp [Value.oneCell']) (by unfold maxLen; omega) (by omega) (by have := HX2.out.size; simp; omega) ?_; intro v3 w3 hv3 hg3 hn3; obtain ⟨wa, wc, rfl⟩ := own_shape hv3; obtain ⟨n3, en3⟩ : ∃ n3, n3 = 0 + t9.length + 1 := ⟨_, rfl⟩; have HX3 := Lib.hid (ext_own (w := T6) (ext_alloc _ HX2.out) (own_ext' HV2.out (ext_alloc _ (ext_refl w2))) hg3); rw [← en3] at hv3 ⊢; have HV3 := Lib.hid hv3; have HN3 := Lib.hid en3; clear hv3 hg3 hn3 en3; have hkk := (HX3.out.block B (by omega)).trans HQ.out.pk.bw; obtain ⟨c0, c1, c2, c3, c4, cz, ll⟩ := fiv_of hkk; rw [HLN.out, HLA.out] at c3; rw [HBU.out] at c2; clear hkk)
              try rw [← HEVA.out]
              have hfA : FD (fun k => k = B) w3 ((w3.setCell ⟨B, 4, none⟩ (.slice wa n3 wc)).setCell ⟨B, 3, none⟩ (.slice va (l2.length + 1) (uc - 1))) := ((FD.refl (fun k => k = B) w3).set (p := ⟨B, 4, none⟩) _ rfl).set (p := ⟨B, 3, none⟩) _ rfl
              have hkA : ((w3.setCell ⟨B, 4, none⟩ (.slice wa n3 wc)).setCell ⟨B, 3, none⟩ (.slice va (l2.length + 1) (uc - 1))).heap[B]? = some (.cells #[.int .i64 (S1.n : Int), .slice vx us.length (bc - 1), .bool S1.busy, .slice va (l2.length + 1) (uc - 1), .slice wa n3 wc] 42) := by
                have k1 := set_same (o := 4) (.slice wa n3 wc) ((HX3.out.block B (by omega)).trans HQ.out.pk.bw)
                have k2 := set_same (o := 3) (.slice va (l2.length + 1) (uc - 1)) k1
                rw [k2]
                simp
              have hUA : UsB (RpE D B) ((w3.setCell ⟨B, 4, none⟩ (.slice wa n3 wc)).setCell ⟨B, 3, none⟩ (.slice va (l2.length + 1) (uc - 1))) (.slice wa n3 wc) (t9 ++ [y]) := by
                have h8 := HV3.out
                rw [List.nil_append] at h8
                have en : n3 = (t9 ++ [y]).length := by rw [HN3.out]; simp
                have h9 : w3.ownsRow T6.heap.size 43 1 (.slice wa n3 wc) (t9 ++ [y]).length ((t9 ++ [y]).map W1) := by
                  rw [List.map_append, ← en]
                  exact h8
                exact ((usB_of_own h9 (D := fun k => k < T6.heap.size) fun _ h => h).fr (hfA.wide fun k hk => by omega)).mono fun k hk => by
                  rcases hk with hk | hk
                  · have := hb k hk; omega
                  · omega
              have HK8 : Hid (RpIn D B { S1 with l := a2 :: l2, t := t9 ++ [y] } M R (.slice vx us.length (bc - 1)) (.slice va (l2.length + 1) (uc - 1)) (.slice wa n3 wc) r e w wr ((w3.setCell ⟨B, 4, none⟩ (.slice wa n3 wc)).setCell ⟨B, 3, none⟩ (.slice va (l2.length + 1) (uc - 1)))) := by
                obtain ⟨us8, h1, h2⟩ := HQ.out.pk.vs.b
                exact Lib.hid ((HQ.out.pk.grow HX3.out).lay (S' := { S1 with l := a2 :: l2, t := t9 ++ [y] }) hfA hkA ⟨⟨us8, (h1.ext HX3.out).fr (hfA.wide fun k hk => .inr (by omega)), h2⟩, ⟨_, _, _, rfl⟩, ⟨_, _, _, rfl⟩, fun _ => HVL.out, fun _ => hUA⟩)
              have HR8 := Lib.hid ((HQ.out.ref.ext HX3.out).fd hfA (fun k hk => .inr (by omega)))
              have HBD8 := Lib.hid ((hfA.block bd (Nat.lt_of_lt_of_le (heap_lt HQ.out.box) HX3.out.size) (by omega)).trans ((HX3.out.block bd (heap_lt HQ.out.box)).trans HQ.out.box))
              have HU8 := Lib.hid hUA
              clear hUA hkA hfA c0 c1 c2 c3 c4 cz ll HV3 HX3 HX2 HV2 HQ HVL HEVA HNW H0 HT2
              replace HK8 := HK8.out
              replace HR8 := HR8.out
              replace HBD8 := HBD8.out
              replace HU8 := HU8.out
              generalize (World.setCell _ (⟨B, 3, none⟩ : Addr) _) = T8 at HK8 HR8 HBD8 HU8 ⊢
              replace HK8 := Lib.hid HK8
              replace HR8 := Lib.hid HR8
              replace HBD8 := Lib.hid HBD8
              replace HU8 := Lib.hid HU8
              obtain ⟨c0, c1, c2, c3, c4, cz, ll⟩ := fiv_of HK8.out.bw
              simp only at c0 c2
              rw [HBU.out] at c2
              go_wp2
              have HR := HR8
              have HU : Hid (UsB (RpE D B) T8 (.slice none 0 0) []) := Lib.hid (UsB.nil _ _)

              have m0 : T8.cell? ⟨bd, 0, none⟩ = some (.slice R2.wa M2.n R2.wc) := cell_at HBD8.out rfl
              have m1 : T8.cell? ⟨bd, 1, none⟩ = some (.slice R2.ea M2.n R2.ec) := cell_at HBD8.out rfl
              have m2 : T8.cell? ⟨bd, 2, none⟩ = some (.int .i64 M2.ct) := cell_at HBD8.out rfl
              have ml := heap_lt HBD8.out

              have HKE := Lib.hid (HK8.out.grow (ext_drew (ext_refl T8)))
              have hb3 : B < B + 3 := by omega
              have hb31 : B + 1 < B + 3 := by omega
              have hBT : B + 6 ≤ T8.heap.size := HK8.out.big
              have hBTd : B + 6 ≤ T8.drew.heap.size := HKE.out.big
              have F0 : Fr (B + 3) (B + 6) T8 T8.drew := .of_ext (ext_drew (ext_refl T8))
              refine wp_region_mix (fun y => ∃ s, y = off (B + 3) (B + 6) T8 s) [(0, [0, 1, 2]), (1, [3]), (1, [4]), (1, [5])] (by kernel_rfl) (by kernel_rfl) (off_of F0) ?_
              simp only [pieces, pickL, List.map_cons, List.map_nil, List.getD_cons_zero, List.getD_cons_succ]
              refine mix_reads ?_
              repeat (go_big_quiet_step (fail))
              refine wpQuiet_nil (mix_acts ?_)
              obtain ⟨e0, e1, e2, e3, e4, ez, el⟩ := fiv_of HKE.out.r3
              have g0 : T8.drew.cell? ⟨B + 4, 0, none⟩ = some (.slice none 0 0) := cell_at HKE.out.r4 rfl
              have g1 : T8.drew.cell? ⟨B + 4, 1, none⟩ = some (.slice none 0 0) := cell_at HKE.out.r4 rfl
              have g2 : T8.drew.cell? ⟨B + 4, 2, none⟩ = some (.int .i64 0) := cell_at HKE.out.r4 rfl
              have gz := fun o => free_at (o := o) HKE.out.r4
              have gl := heap_lt HKE.out.r4
              have j0 : T8.drew.cell? ⟨B + 5, 0, none⟩ = some (.int .i64 0) := cell_at HKE.out.r5 rfl
              have j1 : T8.drew.cell? ⟨B + 5, 1, none⟩ = some (.slice none 0 0) := cell_at HKE.out.r5 rfl
              have jz := fun o => free_at (o := o) HKE.out.r5
              have jl := heap_lt HKE.out.r5
              have hRE := Lib.hid (HR.out.ext (ext_drew (ext_refl T8)))
              have hUE := Lib.hid (HU.out.fr (.of_ext (ext_drew (ext_refl T8))))
              generalize T8.drew = Td at *
              have F1 := ((((F0.set (p := ⟨B + 3, 0, none⟩) (.int .i64 (S1.n : Int)) (by simp) (by simp)).set (p := ⟨B + 3, 1, none⟩) (.slice vx us.length (bc - 1)) (by simp) (by simp)).set (p := ⟨B + 3, 2, none⟩) (.bool true) (by simp) (by simp)).set (p := ⟨B + 3, 3, none⟩) (.slice va (l2.length + 1) (uc - 1)) (by simp) (by simp)).set (p := ⟨B + 3, 4, none⟩) (.slice wa n3 wc) (by simp) (by simp)
              have F2 := ((F1.set (p := ⟨B + 4, 0, none⟩) (.slice R2.wa M2.n R2.wc) (by simp) (by simp)).set (p := ⟨B + 4, 1, none⟩) (.slice R2.ea M2.n R2.ec) (by simp) (by simp)).set (p := ⟨B + 4, 2, none⟩) (.int .i64 M2.ct) (by simp) (by simp)
              have F3 := (F2.set (p := ⟨B + 5, 0, none⟩) (.int .i64 (1 : Int)) (by simp) (by simp)).set (p := ⟨B + 5, 1, none⟩) (.slice none 0 0) (by simp) (by simp)
              have FF := Lib.hid (And.intro F1 (And.intro F2 F3))
              clear F1 F2 F3 F0
              skip
              go_wp2
              refine mixQ_mk (off_of FF.out.1) (mix_acts ?_)
              go_wp2
              refine mixQ_mk (off_of FF.out.2.1) (mix_acts ?_)
              go_wp2
              refine mixQ_mk (off_of FF.out.2.2) (mix_end ?_)
              go_wp2
              have hend := HKE.out.ends hRE.out x 1 [] none 0 (by rw [← HX.out, HE.out]) hUE.out
              unfold putE wV at hend
              simp only [HBU.out] at hend
              exact bodyPost_ret (v := .tuple #[.agg #[.int .i64 (S1.n : Int), .slice vx us.length (bc - 1), .bool true, .slice va (l2.length + 1) (uc - 1), .slice wa n3 wc], refV R2 M2, .agg #[.int .i64 1, .slice none 0 0]]) (by simp only [results, Try.results19, go_sem]; simp [go_sem, e0, e1, e2, e3, e4, g0, g1, g2, j0, j1, refV]) rfl hend
  | true =>
    have c2' := c2
    rw [hbu] at c2'
    clear c2
    have HX : Hid (goF r e M S = x) := Lib.hid (by rw [← pickF_busy hbu]; exact hx.out)
    have HBU := Lib.hid hbu
    obtain ⟨la', lc', el, hr0⟩ := id (HK.out.vs.bl hbu)
    clear hr0
    simp at el
    obtain ⟨rfl, rfl, rfl⟩ := el
    obtain ⟨ta', tc', et, hr0⟩ := id (HK.out.vs.bt hbu)
    clear hr0
    simp at et
    obtain ⟨rfl, rfl, rfl⟩ := et
    have HA := Lib.hid (HK.out.vs.bl hbu)
    have HT := Lib.hid (HK.out.vs.bt hbu)
    have hrun1 : S.t.length + S.l.length ≤ 900 := hrun
    obtain ⟨l9, hl9⟩ : ∃ l9, S.l = l9 := ⟨_, rfl⟩
    obtain ⟨t9, ht9⟩ : ∃ t9, S.t = t9 := ⟨_, rfl⟩
    rw [hl9] at hrun1 HA HK c3
    rw [ht9] at hrun1 HT HK c4
    have HSL := Lib.hid hl9
    have HST := Lib.hid ht9
    clear hx hbu HV hl9 ht9
    have c2 := c2'
    go_upto_region 8 with fail
    clear c0 c1 c2 c2' c3 c4 cz ll m0 m1 m2 ml
    obtain ⟨T4, hT4⟩ : ∃ T4, T4 = T := ⟨_, rfl⟩
    rw [← hT4] at HK HT ⊢
    clear hT4 T
    rcases (show l9 = [] ∨ ∃ a1 l1, l9 = a1 :: l1 by cases l9 with | nil => exact .inl rfl | cons a1 l1 => exact .inr ⟨_, _, rfl⟩) with hl | ⟨a1, l1, hl⟩
    · have hl0 : l9.length = 0 := by rw [hl]; rfl
      have HE : Hid (goF r e M S = (M, S.rest, 2, t9)) := Lib.hid (by rw [goF_nil (HSL.out.trans hl), HST.out])
      obtain ⟨c0, c1, c2, c3, c4, cz, ll⟩ := fiv_of HK.out.bw
      have m0 : T4.cell? ⟨B + 1, 0, none⟩ = some (.slice R.wa M.n R.wc) := cell_at HK.out.bm rfl
      have m1 : T4.cell? ⟨B + 1, 1, none⟩ = some (.slice R.ea M.n R.ec) := cell_at HK.out.bm rfl
      have m2 : T4.cell? ⟨B + 1, 2, none⟩ = some (.int .i64 M.ct) := cell_at HK.out.bm rfl
      have ml := heap_lt HK.out.bm

      rw [hl0] at c3
      rw [HBU.out] at c2
      go_wp2
      have hf5 : FD (fun k => k = B) T4 (T4.setCell ⟨B, 2, none⟩ (.bool false)) := (FD.refl (fun k => k = B) T4).set (p := ⟨B, 2, none⟩) _ rfl
      have hk5 : (T4.setCell ⟨B, 2, none⟩ (.bool false)).heap[B]? = some (.cells #[.int .i64 (S.n : Int), .slice ba S.q.length bc, .bool false, .slice la 0 lc, .slice ta t9.length tc] 42) := by
        have k1 := set_same (o := 2) (.bool false) HK.out.bw
        rw [hl0] at k1
        rw [k1]
        simp
      have HK5 : Hid (RpIn D B S.rest M R (.slice ba S.q.length bc) (.slice la 0 lc) (.slice ta t9.length tc) r e w wr (T4.setCell ⟨B, 2, none⟩ (.bool false))) :=
        Lib.hid (HK.out.lay (S' := S.rest) hf5 hk5 (((HK.out.vs.fr (hf5.wide fun k hk => .inr (by omega))).rests _ _ ⟨_, _, _, rfl⟩ ⟨_, _, _, rfl⟩)))
      have HU := Lib.hid (HT.out.fr (hf5.wide fun k hk => .inr (by omega)))
      clear c0 c1 c2 c3 c4 cz ll m0 m1 m2 ml hf5 hk5
      generalize T4.setCell ⟨B, 2, none⟩ (.bool false) = T5 at HK5 HU ⊢
      have HR := Lib.hid HK5.out.ref
      obtain ⟨c0, c1, c2, c3, c4, cz, ll⟩ := fiv_of HK5.out.bw
      have m0 : T5.cell? ⟨B + 1, 0, none⟩ = some (.slice R.wa M.n R.wc) := cell_at HK5.out.bm rfl
      have m1 : T5.cell? ⟨B + 1, 1, none⟩ = some (.slice R.ea M.n R.ec) := cell_at HK5.out.bm rfl
      have m2 : T5.cell? ⟨B + 1, 2, none⟩ = some (.int .i64 M.ct) := cell_at HK5.out.bm rfl
      have ml := heap_lt HK5.out.bm
      have HKE := Lib.hid (HK5.out.grow (ext_drew (ext_refl T5)))
      have hb3 : B < B + 3 := by omega
      have hb31 : B + 1 < B + 3 := by omega
      have hBT : B + 6 ≤ T5.heap.size := HK5.out.big
      have hBTd : B + 6 ≤ T5.drew.heap.size := HKE.out.big
      have F0 : Fr (B + 3) (B + 6) T5 T5.drew := .of_ext (ext_drew (ext_refl T5))
      refine wp_region_mix (fun y => ∃ s, y = off (B + 3) (B + 6) T5 s) [(0, [0, 1, 2, 3, 4]), (1, [5]), (1, [6]), (1, [7])] (by kernel_rfl) (by kernel_rfl) (off_of F0) ?_
      simp only [pieces, pickL, List.map_cons, List.map_nil, List.getD_cons_zero, List.getD_cons_succ]
      refine mix_reads ?_
      repeat (go_big_quiet_step (fail))
      refine wpQuiet_nil (mix_acts ?_)
      obtain ⟨e0, e1, e2, e3, e4, ez, el⟩ := fiv_of HKE.out.r3
      have g0 : T5.drew.cell? ⟨B + 4, 0, none⟩ = some (.slice none 0 0) := cell_at HKE.out.r4 rfl
      have g1 : T5.drew.cell? ⟨B + 4, 1, none⟩ = some (.slice none 0 0) := cell_at HKE.out.r4 rfl
      have g2 : T5.drew.cell? ⟨B + 4, 2, none⟩ = some (.int .i64 0) := cell_at HKE.out.r4 rfl
      have gz := fun o => free_at (o := o) HKE.out.r4
      have gl := heap_lt HKE.out.r4
      have j0 : T5.drew.cell? ⟨B + 5, 0, none⟩ = some (.int .i64 0) := cell_at HKE.out.r5 rfl
      have j1 : T5.drew.cell? ⟨B + 5, 1, none⟩ = some (.slice none 0 0) := cell_at HKE.out.r5 rfl
      have jz := fun o => free_at (o := o) HKE.out.r5
      have jl := heap_lt HKE.out.r5
      have hRE := Lib.hid (HR.out.ext (ext_drew (ext_refl T5)))
      have hUE := Lib.hid (HU.out.fr (.of_ext (ext_drew (ext_refl T5))))
      generalize T5.drew = Td at *
      have F1 := ((((F0.set (p := ⟨B + 3, 0, none⟩) (.int .i64 (S.n : Int)) (by simp) (by simp)).set (p := ⟨B + 3, 1, none⟩) (.slice ba S.q.length bc) (by simp) (by simp)).set (p := ⟨B + 3, 2, none⟩) (.bool false) (by simp) (by simp)).set (p := ⟨B + 3, 3, none⟩) (.slice la 0 lc) (by simp) (by simp)).set (p := ⟨B + 3, 4, none⟩) (.slice ta t9.length tc) (by simp) (by simp)
      have F2 := ((F1.set (p := ⟨B + 4, 0, none⟩) (.slice R.wa M.n R.wc) (by simp) (by simp)).set (p := ⟨B + 4, 1, none⟩) (.slice R.ea M.n R.ec) (by simp) (by simp)).set (p := ⟨B + 4, 2, none⟩) (.int .i64 M.ct) (by simp) (by simp)
      have F3 := (F2.set (p := ⟨B + 5, 0, none⟩) (.int .i64 (2 : Int)) (by simp) (by simp)).set (p := ⟨B + 5, 1, none⟩) (.slice ta t9.length tc) (by simp) (by simp)
      have FF := Lib.hid (And.intro F1 (And.intro F2 F3))
      clear F1 F2 F3 F0
      skip
      go_wp2
      refine mixQ_mk (off_of FF.out.1) (mix_acts ?_)
      go_wp2
      refine mixQ_mk (off_of FF.out.2.1) (mix_acts ?_)
      go_wp2
      refine mixQ_mk (off_of FF.out.2.2) (mix_end ?_)
      go_wp2
      have hend := HKE.out.ends hRE.out x 2 (t9) ta tc (by rw [← HX.out, HE.out]) hUE.out
      unfold putE at hend
      exact bodyPost_ret (v := .tuple #[wV S.rest (.slice ba S.q.length bc) (.slice la 0 lc) (.slice ta t9.length tc), refV R M, .agg #[.int .i64 2, .slice ta t9.length tc]]) (by simp only [results, Try.results19, go_sem]; simp [go_sem, e0, e1, e2, e3, e4, g0, g1, g2, j0, j1, wV, refV]) rfl hend

    · obtain ⟨b1, o1, hla, _, hlt1, hcells⟩ := HA.out.at (by rw [hl]; simp)
      obtain ⟨d0, d1, d2, d3⟩ := hcells 0 (by rw [hl]; simp)
      rw [hl, Nat.zero_mul, Nat.add_zero] at d0 d1 d2 d3
      have ea : aN (a1 :: l1) 0 = a1 := rfl
      rw [ea] at d0 d1 d2 d3
      replace d0 := ext_cell (ext_trans HK.out.law HK.out.ext) d0
      replace d1 := ext_cell (ext_trans HK.out.law HK.out.ext) d1
      replace d2 := ext_cell (ext_trans HK.out.law HK.out.ext) d2
      replace d3 := ext_cell (ext_trans HK.out.law HK.out.ext) d3
      have dl := cell_lt d0
      clear ea hcells
      have hln : l9.length = l1.length + 1 := by rw [hl]; rfl
      obtain ⟨c0, c1, c2, c3, c4, cz, ll⟩ := fiv_of HK.out.bw
      have m0 : T4.cell? ⟨B + 1, 0, none⟩ = some (.slice R.wa M.n R.wc) := cell_at HK.out.bm rfl
      have m1 : T4.cell? ⟨B + 1, 1, none⟩ = some (.slice R.ea M.n R.ec) := cell_at HK.out.bm rfl
      have m2 : T4.cell? ⟨B + 1, 2, none⟩ = some (.int .i64 M.ct) := cell_at HK.out.bm rfl
      have ml := heap_lt HK.out.bm

      rw [hln, hla] at c3
      rw [HBU.out] at c2
      have HLN := Lib.hid hln
      have HLA := Lib.hid hla
      have HL := Lib.hid hl
      clear hln hla hl
      have n0 : T4.cell? ⟨B + 2, 0, none⟩ = some (.int .i64 r) := cell_at HK.out.bc rfl
      have n1 : T4.cell? ⟨B + 2, 1, none⟩ = some (.int .u64 (U e)) := cell_at HK.out.bc rfl
      have nl := heap_lt HK.out.bc
      obtain ⟨M2, y, okb, hsp⟩ : ∃ M2 y okb, DoSpec M r e a1 M2 y okb := by
        by_cases hd : DoOk M r e a1.op a1.at_
        · exact ⟨_, _, true, .inl ⟨hd, rfl, rfl, rfl⟩⟩
        · exact ⟨_, _, false, .inr ⟨hd, rfl, rfl, rfl⟩⟩
      have HSP := Lib.hid hsp
      clear hsp
      go_wp2
      refine wp_region_ways (fun y => ∃ s, y = over T4 s) (by kernel_rfl) (over_of (ext_drew (ext_refl T4))) ?_
      refine ways_reads [0, 1, 2, 3, 4, 5] (by kernel_rfl) ?_
      simp only [pickL, List.map_cons, List.map_nil, List.getD_cons_zero, List.getD_cons_succ]
      repeat (go_big_quiet_step (fail))
      refine wpQuiet_nil ?_
      clear c0 c1 c2 c3 c4 cz ll m0 m1 m2 ml n0 n1 nl d0 d1 d2 d3 dl
      refine ways_fork 6 (by kernel_rfl) ?_ (ways_act 11 (by kernel_rfl) ?_)
      · simp only [pickL, List.map_cons, List.map_nil, List.getD_cons_zero, List.getD_cons_succ]
        go_wp2_with (go_at_call 38; refine (rdo_any (HK.out.ref.ext (ext_drew (ext_refl T4))) r e a1 y okb HSP.out).mono ?_; rintro en X1 ⟨R2, rfl, hr, hx⟩; have HR2 := Lib.hid hr; have HX1 := Lib.hid (ext_trans (ext_drew (ext_refl T4)) hx); clear hr hx; unfold refV)
        refine mixQ_mk (over_of HX1.out) (ways_reads [7, 8, 9, 10] (by kernel_rfl) ?_)
        simp only [pickL, List.map_cons, List.map_nil, List.getD_cons_zero, List.getD_cons_succ]
        repeat (go_big_quiet_step (fail))
        refine wpQuiet_nil (ways_act 11 (by kernel_rfl) ?_)
        simp only [pickL, List.map_cons, List.map_nil, List.getD_cons_zero, List.getD_cons_succ]
        go_wp2
        refine mixQ_mk (over_of (ext_alloc _ HX1.out)) (ways_act 12 (by kernel_rfl) ?_)
        simp only [pickL, List.map_cons, List.map_nil, List.getD_cons_zero, List.getD_cons_succ]
        go_wp2
        refine mixQ_mk (over_of (ext_alloc _ HX1.out)) (ways_reads [13, 14] (by kernel_rfl) ?_)
        simp only [pickL, List.map_cons, List.map_nil, List.getD_cons_zero, List.getD_cons_succ]
        repeat (go_big_quiet_step (fail))
        refine wpQuiet_nil (ways_end (by kernel_rfl) ?_)
        have HQ : Hid (RpQ D B S M R (.slice ba S.q.length bc) (.slice la l9.length lc) (.slice ta t9.length tc) r e w wr X1.heap.size M2 R2 (X1.alloc (.cells #[.slice R2.wa M2.n R2.wc, .slice R2.ea M2.n R2.ec, .int .i64 M2.ct] 33))) :=
          Lib.hid ⟨HK.out.grow (ext_alloc _ HX1.out), HR2.out.ext (ext_alloc _ (ext_refl X1)), heap_at _ _ _ rfl, by have := HK.out.big; have := HX1.out.size; omega⟩
        have HT2 := Lib.hid (HT.out.fr (.of_ext (ext_alloc (.cells #[.slice R2.wa M2.n R2.wc, .slice R2.ea M2.n R2.ec, .int .i64 M2.ct] 33) HX1.out)))
        generalize X1.heap.size = bd at HQ ⊢
        generalize hT2 : X1.alloc _ = T6 at HQ HT2 ⊢
        clear hT2 HR2 HX1 HK HT X1
        cases okb with
        | false =>
          have HE : Hid (goF r e M S = (M, S.rest, 3, [])) := by
            rcases HSP.out with ⟨_, _, _, h⟩ | ⟨hd, _⟩
            · cases h
            · exact Lib.hid (goF_no (HSL.out.trans HL.out) hd)
          obtain ⟨c0, c1, c2, c3, c4, cz, ll⟩ := fiv_of HQ.out.pk.bw
          have m0 : T6.cell? ⟨B + 1, 0, none⟩ = some (.slice R.wa M.n R.wc) := cell_at HQ.out.pk.bm rfl
          have m1 : T6.cell? ⟨B + 1, 1, none⟩ = some (.slice R.ea M.n R.ec) := cell_at HQ.out.pk.bm rfl
          have m2 : T6.cell? ⟨B + 1, 2, none⟩ = some (.int .i64 M.ct) := cell_at HQ.out.pk.bm rfl
          have ml := heap_lt HQ.out.pk.bm

          rw [HBU.out] at c2
          go_wp2
          have hf5 : FD (fun k => k = B) T6 (T6.setCell ⟨B, 2, none⟩ (.bool false)) := (FD.refl (fun k => k = B) T6).set (p := ⟨B, 2, none⟩) _ rfl
          have hk5 : (T6.setCell ⟨B, 2, none⟩ (.bool false)).heap[B]? = some (.cells #[.int .i64 (S.n : Int), .slice ba S.q.length bc, .bool false, .slice la l9.length lc, .slice ta t9.length tc] 42) := by
            have k1 := set_same (o := 2) (.bool false) HQ.out.pk.bw
            rw [k1]
            simp
          have HK7 : Hid (RpIn D B S.rest M R (.slice ba S.q.length bc) (.slice la l9.length lc) (.slice ta t9.length tc) r e w wr (T6.setCell ⟨B, 2, none⟩ (.bool false))) :=
            Lib.hid (HQ.out.pk.lay (S' := S.rest) hf5 hk5 (((HQ.out.pk.vs.fr (hf5.wide fun k hk => .inr (by omega))).rests _ _ ⟨_, _, _, rfl⟩ ⟨_, _, _, rfl⟩)))
          clear c0 c1 c2 c3 c4 cz ll m0 m1 m2 ml hf5 hk5 HQ HT2
          generalize T6.setCell ⟨B, 2, none⟩ (.bool false) = T7 at HK7 ⊢
          have HR := Lib.hid HK7.out.ref
          have HU : Hid (UsB (RpE D B) T7 (.slice none 0 0) []) := Lib.hid (UsB.nil _ _)
          obtain ⟨c0, c1, c2, c3, c4, cz, ll⟩ := fiv_of HK7.out.bw
          have m0 : T7.cell? ⟨B + 1, 0, none⟩ = some (.slice R.wa M.n R.wc) := cell_at HK7.out.bm rfl
          have m1 : T7.cell? ⟨B + 1, 1, none⟩ = some (.slice R.ea M.n R.ec) := cell_at HK7.out.bm rfl
          have m2 : T7.cell? ⟨B + 1, 2, none⟩ = some (.int .i64 M.ct) := cell_at HK7.out.bm rfl
          have ml := heap_lt HK7.out.bm
          have HKE := Lib.hid (HK7.out.grow (ext_drew (ext_refl T7)))
          have hb3 : B < B + 3 := by omega
          have hb31 : B + 1 < B + 3 := by omega
          have hBT : B + 6 ≤ T7.heap.size := HK7.out.big
          have hBTd : B + 6 ≤ T7.drew.heap.size := HKE.out.big
          have F0 : Fr (B + 3) (B + 6) T7 T7.drew := .of_ext (ext_drew (ext_refl T7))
          refine wp_region_mix (fun y => ∃ s, y = off (B + 3) (B + 6) T7 s) [(0, [0, 1, 2]), (1, [3]), (1, [4]), (1, [5])] (by kernel_rfl) (by kernel_rfl) (off_of F0) ?_
          simp only [pieces, pickL, List.map_cons, List.map_nil, List.getD_cons_zero, List.getD_cons_succ]
          refine mix_reads ?_
          repeat (go_big_quiet_step (fail))
          refine wpQuiet_nil (mix_acts ?_)
          obtain ⟨e0, e1, e2, e3, e4, ez, el⟩ := fiv_of HKE.out.r3
          have g0 : T7.drew.cell? ⟨B + 4, 0, none⟩ = some (.slice none 0 0) := cell_at HKE.out.r4 rfl
          have g1 : T7.drew.cell? ⟨B + 4, 1, none⟩ = some (.slice none 0 0) := cell_at HKE.out.r4 rfl
          have g2 : T7.drew.cell? ⟨B + 4, 2, none⟩ = some (.int .i64 0) := cell_at HKE.out.r4 rfl
          have gz := fun o => free_at (o := o) HKE.out.r4
          have gl := heap_lt HKE.out.r4
          have j0 : T7.drew.cell? ⟨B + 5, 0, none⟩ = some (.int .i64 0) := cell_at HKE.out.r5 rfl
          have j1 : T7.drew.cell? ⟨B + 5, 1, none⟩ = some (.slice none 0 0) := cell_at HKE.out.r5 rfl
          have jz := fun o => free_at (o := o) HKE.out.r5
          have jl := heap_lt HKE.out.r5
          have hRE := Lib.hid (HR.out.ext (ext_drew (ext_refl T7)))
          have hUE := Lib.hid (HU.out.fr (.of_ext (ext_drew (ext_refl T7))))
          generalize T7.drew = Td at *
          have F1 := ((((F0.set (p := ⟨B + 3, 0, none⟩) (.int .i64 (S.n : Int)) (by simp) (by simp)).set (p := ⟨B + 3, 1, none⟩) (.slice ba S.q.length bc) (by simp) (by simp)).set (p := ⟨B + 3, 2, none⟩) (.bool false) (by simp) (by simp)).set (p := ⟨B + 3, 3, none⟩) (.slice la l9.length lc) (by simp) (by simp)).set (p := ⟨B + 3, 4, none⟩) (.slice ta t9.length tc) (by simp) (by simp)
          have F2 := ((F1.set (p := ⟨B + 4, 0, none⟩) (.slice R.wa M.n R.wc) (by simp) (by simp)).set (p := ⟨B + 4, 1, none⟩) (.slice R.ea M.n R.ec) (by simp) (by simp)).set (p := ⟨B + 4, 2, none⟩) (.int .i64 M.ct) (by simp) (by simp)
          have F3 := (F2.set (p := ⟨B + 5, 0, none⟩) (.int .i64 (3 : Int)) (by simp) (by simp)).set (p := ⟨B + 5, 1, none⟩) (.slice none 0 0) (by simp) (by simp)
          have FF := Lib.hid (And.intro F1 (And.intro F2 F3))
          clear F1 F2 F3 F0
          skip
          go_wp2
          refine mixQ_mk (off_of FF.out.1) (mix_acts ?_)
          go_wp2
          refine mixQ_mk (off_of FF.out.2.1) (mix_acts ?_)
          go_wp2
          refine mixQ_mk (off_of FF.out.2.2) (mix_end ?_)
          go_wp2
          have hend := HKE.out.ends hRE.out x 3 [] none 0 (by rw [← HX.out, HE.out]) hUE.out
          unfold putE at hend
          exact bodyPost_ret (v := .tuple #[wV S.rest (.slice ba S.q.length bc) (.slice la l9.length lc) (.slice ta t9.length tc), refV R M, .agg #[.int .i64 3, .slice none 0 0]]) (by simp only [results, Try.results19, go_sem]; simp [go_sem, e0, e1, e2, e3, e4, g0, g1, g2, j0, j1, wV, refV]) rfl hend

        | true =>
          obtain ⟨hd, hM2, hy⟩ : DoOk M r e a1.op a1.at_ ∧ M2 = M.done r a1.op a1.at_ a1.a a1.b ∧ y = M.wd r.toNat a1.at_.toNat := by
            rcases HSP.out with ⟨h1, h2, h3, _⟩ | ⟨_, _, _, h⟩
            · exact ⟨h1, h2, h3⟩
            · cases h
          have HDO := Lib.hid (And.intro hd (And.intro hM2 hy))
          clear hd hM2 hy HSP
          obtain ⟨c0, c1, c2, c3, c4, cz, ll⟩ := fiv_of HQ.out.pk.bw
          have m0 : T6.cell? ⟨B + 1, 0, none⟩ = some (.slice R.wa M.n R.wc) := cell_at HQ.out.pk.bm rfl
          have m1 : T6.cell? ⟨B + 1, 1, none⟩ = some (.slice R.ea M.n R.ec) := cell_at HQ.out.pk.bm rfl
          have m2 : T6.cell? ⟨B + 1, 2, none⟩ = some (.int .i64 M.ct) := cell_at HQ.out.pk.bm rfl
          have ml := heap_lt HQ.out.pk.bm

          rw [HLN.out, HLA.out] at c3
          rw [HBU.out] at c2
          have H0 : Hid (ta = none → t9.length = 0) := Lib.hid (by
            first
              | exact fun _ => rfl
              | (intro e0; obtain ⟨a9, c9, e9, _, h9⟩ := HT2.out; simp at e9; obtain ⟨rfl, rfl⟩ := e9; by_cases hp : 0 < t9.length
                 · obtain ⟨b9, o9, ea9, _⟩ := h9 hp; rw [e0] at ea9; cases ea9
                 · omega))
          have HNW : Hid (∀ ad, ta = some ad → ∀ j u, ((t9).map W1)[j]? = some u → (T6.alloc (.cells #[] 43)).cell? (ad.add j) = some u) := Lib.hid (by
            intro ad ea
            first
              | (cases ea; done)
              | exact news_us (by rw [← ea]; exact HT2.out.us.ext (ext_alloc _ (ext_refl T6))))
          have h6 := HQ.out.pk.big
          have hfar := HQ.out.far
          go_wp2_with (at_builtin; refine Hid.out ?_)
          refine Lib.hid ?_
          refine wpList_append_opt rfl (.tmp 60) (.tmp 62) 31 rfl T6.heap.size 43 iU (.int .u64 0) 1 8 Try.underlying31 hiU hy0 hy1 hy2 rfl (by decide) (.slice (some ⟨T6.heap.size, 0, none⟩) 0 0) 0 [] rfl (own_none _ _ _ _ _ rfl (Nat.le_refl _)) ta (t9.length) tc ((t9).map W1) rfl H0.out (by simp) HNW.out (ones_us _) (by unfold maxLen; omega) (by omega) (by simp) ?_
          intro v2 w2 hv2 hg2
          have HV2 := Lib.hid hv2
          have HX2 := Lib.hid (ext_own (w := T6) (ext_alloc _ (ext_refl T6)) (own_none T6 T6.heap.size 43 1 T6.heap.size rfl (Nat.le_refl _)) hg2)
          clear hv2 hg2 c0 c1 c2 c3 c4 cz ll m0 m1 m2 ml
          have hva : ∃ va, va = (if lc = 1 then some (⟨b1, o1, none⟩ : Addr) else some ⟨b1, o1 + 4, none⟩) ∧ (0 < l1.length → va = some ⟨b1, o1 + 4, none⟩) := ⟨_, rfl, fun h => if_neg (by have h8 := HA.out; have h7 := HLN.out; obtain ⟨_, _, e8, h9, _⟩ := h8; simp at e8; omega)⟩
          obtain ⟨va, eva, hva⟩ := hva
          have HVL : Hid (AsB (fun _ => False) w (.slice va l1.length (lc - 1)) l1) := by
            have h8 := HA.out
            rw [HL.out, HLA.out] at h8
            obtain ⟨_, _, e8, h9, _⟩ := id h8
            simp at e8
            exact Lib.hid (AsB.tail (a := a1) h8 va (lc - 1) hva (by simp at h9; omega))
          have HEVA := Lib.hid eva
          clear hva eva
          cases l1 with
          | nil =>
            have HE : Hid (goF r e M S = (M2, S.rest, 2, (t9) ++ [y])) := Lib.hid (by rw [goF_last (HSL.out.trans HL.out) HDO.out.1, HDO.out.2.1, HDO.out.2.2, HST.out])
            go_upto_region 17 with (at_builtin; refine wpList_append_own _ rfl (.tmp 63) (.tmp 65) 31 rfl T6.heap.size 43 iU (.int .u64 0) 1 8 Try.underlying31 hiU hy0 hy1 hy2 rfl (by decide) v2 (0 + t9.length) ([] ++ (t9).map W1) rfl (own_ext' HV2.out (ext_alloc _ (ext_refl w2))) ⟨w2.heap.size, 0, none⟩ 1 1 [.int .u64 (U y)] rfl rfl (newp _ _ _ _ rfl) (by simp [Value.oneCell']) (by unfold maxLen; omega) (by omega) (by have := HX2.out.size; simp; omega) ?_; intro v3 w3 hv3 hg3 hn3; obtain ⟨wa, wc, rfl⟩ := own_shape hv3; obtain ⟨n3, en3⟩ : ∃ n3, n3 = 0 + t9.length + 1 := ⟨_, rfl⟩; have HX3 := Lib.hid (ext_own (w := T6) (ext_alloc _ HX2.out) (own_ext' HV2.out (ext_alloc _ (ext_refl w2))) hg3); rw [← en3] at hv3 ⊢; have HV3 := Lib.hid hv3; have HN3 := Lib.hid en3; clear hv3 hg3 hn3 en3; have hkk := (HX3.out.block B (by omega)).trans HQ.out.pk.bw; obtain ⟨c0, c1, c2, c3, c4, cz, ll⟩ := fiv_of hkk; rw [HLN.out, HLA.out] at c3; rw [HBU.out] at c2; clear hkk)
            try rw [← HEVA.out]
            have hfA : FD (fun k => k = B) w3 ((w3.setCell ⟨B, 4, none⟩ (.slice wa n3 wc)).setCell ⟨B, 3, none⟩ (.slice va 0 (lc - 1))) := ((FD.refl (fun k => k = B) w3).set (p := ⟨B, 4, none⟩) _ rfl).set (p := ⟨B, 3, none⟩) _ rfl
            have hkA : ((w3.setCell ⟨B, 4, none⟩ (.slice wa n3 wc)).setCell ⟨B, 3, none⟩ (.slice va 0 (lc - 1))).heap[B]? = some (.cells #[.int .i64 (S.n : Int), .slice ba S.q.length bc, .bool S.busy, .slice va 0 (lc - 1), .slice wa n3 wc] 42) := by
              have k1 := set_same (o := 4) (.slice wa n3 wc) ((HX3.out.block B (by omega)).trans HQ.out.pk.bw)
              have k2 := set_same (o := 3) (.slice va 0 (lc - 1)) k1
              rw [k2]
              simp
            have hUA : UsB (RpE D B) ((w3.setCell ⟨B, 4, none⟩ (.slice wa n3 wc)).setCell ⟨B, 3, none⟩ (.slice va 0 (lc - 1))) (.slice wa n3 wc) (t9 ++ [y]) := by
              have h8 := HV3.out
              rw [List.nil_append] at h8
              have en : n3 = (t9 ++ [y]).length := by rw [HN3.out]; simp
              have h9 : w3.ownsRow T6.heap.size 43 1 (.slice wa n3 wc) (t9 ++ [y]).length ((t9 ++ [y]).map W1) := by
                rw [List.map_append, ← en]
                exact h8
              exact ((usB_of_own h9 (D := fun k => k < T6.heap.size) fun _ h => h).fr (hfA.wide fun k hk => by omega)).mono fun k hk => by
                rcases hk with hk | hk
                · have := hb k hk; omega
                · omega
            have HK8 : Hid (RpIn D B { S with l := [], t := t9 ++ [y] } M R (.slice ba S.q.length bc) (.slice va 0 (lc - 1)) (.slice wa n3 wc) r e w wr ((w3.setCell ⟨B, 4, none⟩ (.slice wa n3 wc)).setCell ⟨B, 3, none⟩ (.slice va 0 (lc - 1)))) := by
              obtain ⟨us8, h1, h2⟩ := HQ.out.pk.vs.b
              exact Lib.hid ((HQ.out.pk.grow HX3.out).lay (S' := { S with l := [], t := t9 ++ [y] }) hfA hkA ⟨⟨us8, (h1.ext HX3.out).fr (hfA.wide fun k hk => .inr (by omega)), h2⟩, ⟨_, _, _, rfl⟩, ⟨_, _, _, rfl⟩, fun _ => HVL.out, fun _ => hUA⟩)
            have HR8 := Lib.hid ((HQ.out.ref.ext HX3.out).fd hfA (fun k hk => .inr (by omega)))
            have HBD8 := Lib.hid ((hfA.block bd (Nat.lt_of_lt_of_le (heap_lt HQ.out.box) HX3.out.size) (by omega)).trans ((HX3.out.block bd (heap_lt HQ.out.box)).trans HQ.out.box))
            have HU8 := Lib.hid hUA
            clear hUA hkA hfA c0 c1 c2 c3 c4 cz ll HV3 HX3 HX2 HV2 HQ HVL HEVA HNW H0 HT2
            replace HK8 := HK8.out
            replace HR8 := HR8.out
            replace HBD8 := HBD8.out
            replace HU8 := HU8.out
            generalize (World.setCell _ (⟨B, 3, none⟩ : Addr) _) = T8 at HK8 HR8 HBD8 HU8 ⊢
            replace HK8 := Lib.hid HK8
            replace HR8 := Lib.hid HR8
            replace HBD8 := Lib.hid HBD8
            replace HU8 := Lib.hid HU8
            obtain ⟨c0, c1, c2, c3, c4, cz, ll⟩ := fiv_of HK8.out.bw
            simp only at c0 c2
            rw [HBU.out] at c2
            go_wp2
            have hf5 : FD (fun k => k = B) T8 (T8.setCell ⟨B, 2, none⟩ (.bool false)) := (FD.refl (fun k => k = B) T8).set (p := ⟨B, 2, none⟩) _ rfl
            have hk5 : (T8.setCell ⟨B, 2, none⟩ (.bool false)).heap[B]? = some (.cells #[.int .i64 (S.n : Int), .slice ba S.q.length bc, .bool false, .slice va 0 (lc - 1), .slice wa n3 wc] 42) := by
              have k1 := set_same (o := 2) (.bool false) HK8.out.bw
              rw [k1]
              simp
            have HK9 : Hid (RpIn D B S.rest M R (.slice ba S.q.length bc) (.slice va 0 (lc - 1)) (.slice wa n3 wc) r e w wr (T8.setCell ⟨B, 2, none⟩ (.bool false))) :=
              Lib.hid (HK8.out.lay (S' := S.rest) hf5 hk5 (((HK8.out.vs.fr (hf5.wide fun k hk => .inr (by omega))).rests _ _ ⟨_, _, _, rfl⟩ ⟨_, _, _, rfl⟩)))
            have HU := Lib.hid (HU8.out.fr (hf5.wide fun k hk => .inr (by omega)))
            have HR := Lib.hid (HR8.out.fd hf5 (fun k hk => .inr (by omega)))
            have HBD9 := Lib.hid ((hf5.block bd (heap_lt HBD8.out) (by omega)).trans HBD8.out)
            clear c0 c1 c2 c3 c4 cz ll hf5 hk5 HK8 HU8 HR8 HBD8
            generalize T8.setCell ⟨B, 2, none⟩ (.bool false) = T9 at HK9 HU HR HBD9 ⊢
            obtain ⟨c0, c1, c2, c3, c4, cz, ll⟩ := fiv_of HK9.out.bw

            have m0 : T9.cell? ⟨bd, 0, none⟩ = some (.slice R2.wa M2.n R2.wc) := cell_at HBD9.out rfl
            have m1 : T9.cell? ⟨bd, 1, none⟩ = some (.slice R2.ea M2.n R2.ec) := cell_at HBD9.out rfl
            have m2 : T9.cell? ⟨bd, 2, none⟩ = some (.int .i64 M2.ct) := cell_at HBD9.out rfl
            have ml := heap_lt HBD9.out

            have HKE := Lib.hid (HK9.out.grow (ext_drew (ext_refl T9)))
            have hb3 : B < B + 3 := by omega
            have hb31 : B + 1 < B + 3 := by omega
            have hBT : B + 6 ≤ T9.heap.size := HK9.out.big
            have hBTd : B + 6 ≤ T9.drew.heap.size := HKE.out.big
            have F0 : Fr (B + 3) (B + 6) T9 T9.drew := .of_ext (ext_drew (ext_refl T9))
            refine wp_region_mix (fun y => ∃ s, y = off (B + 3) (B + 6) T9 s) [(0, [0, 1, 2, 3, 4]), (1, [5]), (1, [6]), (1, [7])] (by kernel_rfl) (by kernel_rfl) (off_of F0) ?_
            simp only [pieces, pickL, List.map_cons, List.map_nil, List.getD_cons_zero, List.getD_cons_succ]
            refine mix_reads ?_
            repeat (go_big_quiet_step (fail))
            refine wpQuiet_nil (mix_acts ?_)
            obtain ⟨e0, e1, e2, e3, e4, ez, el⟩ := fiv_of HKE.out.r3
            have g0 : T9.drew.cell? ⟨B + 4, 0, none⟩ = some (.slice none 0 0) := cell_at HKE.out.r4 rfl
            have g1 : T9.drew.cell? ⟨B + 4, 1, none⟩ = some (.slice none 0 0) := cell_at HKE.out.r4 rfl
            have g2 : T9.drew.cell? ⟨B + 4, 2, none⟩ = some (.int .i64 0) := cell_at HKE.out.r4 rfl
            have gz := fun o => free_at (o := o) HKE.out.r4
            have gl := heap_lt HKE.out.r4
            have j0 : T9.drew.cell? ⟨B + 5, 0, none⟩ = some (.int .i64 0) := cell_at HKE.out.r5 rfl
            have j1 : T9.drew.cell? ⟨B + 5, 1, none⟩ = some (.slice none 0 0) := cell_at HKE.out.r5 rfl
            have jz := fun o => free_at (o := o) HKE.out.r5
            have jl := heap_lt HKE.out.r5
            have hRE := Lib.hid (HR.out.ext (ext_drew (ext_refl T9)))
            have hUE := Lib.hid (HU.out.fr (.of_ext (ext_drew (ext_refl T9))))
            generalize T9.drew = Td at *
            have F1 := ((((F0.set (p := ⟨B + 3, 0, none⟩) (.int .i64 (S.n : Int)) (by simp) (by simp)).set (p := ⟨B + 3, 1, none⟩) (.slice ba S.q.length bc) (by simp) (by simp)).set (p := ⟨B + 3, 2, none⟩) (.bool false) (by simp) (by simp)).set (p := ⟨B + 3, 3, none⟩) (.slice va 0 (lc - 1)) (by simp) (by simp)).set (p := ⟨B + 3, 4, none⟩) (.slice wa n3 wc) (by simp) (by simp)
            have F2 := ((F1.set (p := ⟨B + 4, 0, none⟩) (.slice R2.wa M2.n R2.wc) (by simp) (by simp)).set (p := ⟨B + 4, 1, none⟩) (.slice R2.ea M2.n R2.ec) (by simp) (by simp)).set (p := ⟨B + 4, 2, none⟩) (.int .i64 M2.ct) (by simp) (by simp)
            have F3 := (F2.set (p := ⟨B + 5, 0, none⟩) (.int .i64 (2 : Int)) (by simp) (by simp)).set (p := ⟨B + 5, 1, none⟩) (.slice wa n3 wc) (by simp) (by simp)
            have FF := Lib.hid (And.intro F1 (And.intro F2 F3))
            clear F1 F2 F3 F0
            skip
            go_wp2
            refine mixQ_mk (off_of FF.out.1) (mix_acts ?_)
            go_wp2
            refine mixQ_mk (off_of FF.out.2.1) (mix_acts ?_)
            go_wp2
            refine mixQ_mk (off_of FF.out.2.2) (mix_end ?_)
            go_wp2
            have hend := HKE.out.endsN hRE.out x 2 (t9 ++ [y]) wa n3 wc (by rw [HN3.out]; simp) (by rw [← HX.out, HE.out]) hUE.out
            unfold putE at hend
            exact bodyPost_ret (v := .tuple #[wV S.rest (.slice ba S.q.length bc) (.slice va 0 (lc - 1)) (.slice wa n3 wc), refV R2 M2, .agg #[.int .i64 2, .slice wa n3 wc]]) (by simp only [results, Try.results19, go_sem]; simp [go_sem, e0, e1, e2, e3, e4, g0, g1, g2, j0, j1, wV, refV]) rfl hend
          | cons a2 l2 =>
            have HE : Hid (goF r e M S = (M2, { S with l := a2 :: l2, t := (t9) ++ [y] }, 1, [])) := Lib.hid (by rw [goF_step (HSL.out.trans HL.out) HDO.out.1, HDO.out.2.1, HDO.out.2.2, HST.out])
            go_upto_region 17 with (at_builtin; refine wpList_append_own _ rfl (.tmp 63) (.tmp 65) 31 rfl T6.heap.size 43 iU (.int .u64 0) 1 8 Try.underlying31 hiU hy0 hy1 hy2 rfl (by decide) v2 (0 + t9.length) ([] ++ (t9).map W1) rfl (own_ext' HV2.out (ext_alloc _ (ext_refl w2))) ⟨w2.heap.size, 0, none⟩ 1 1 [.int .u64 (U y)] rfl rfl (newp _ _ _ _ rfl) (by simp [Value.oneCell']) (by unfold maxLen; omega) (by omega) (by have := HX2.out.size; simp; omega) ?_; intro v3 w3 hv3 hg3 hn3; obtain ⟨wa, wc, rfl⟩ := own_shape hv3; obtain ⟨n3, en3⟩ : ∃ n3, n3 = 0 + t9.length + 1 := ⟨_, rfl⟩; have HX3 := Lib.hid (ext_own (w := T6) (ext_alloc _ HX2.out) (own_ext' HV2.out (ext_alloc _ (ext_refl w2))) hg3); rw [← en3] at hv3 ⊢; have HV3 := Lib.hid hv3; have HN3 := Lib.hid en3; clear hv3 hg3 hn3 en3; have hkk := (HX3.out.block B (by omega)).trans HQ.out.pk.bw; obtain ⟨c0, c1, c2, c3, c4, cz, ll⟩ := fiv_of hkk; rw [HLN.out, HLA.out] at c3; rw [HBU.out] at c2; clear hkk)
            try rw [← HEVA.out]
            have hfA : FD (fun k => k = B) w3 ((w3.setCell ⟨B, 4, none⟩ (.slice wa n3 wc)).setCell ⟨B, 3, none⟩ (.slice va (l2.length + 1) (lc - 1))) := ((FD.refl (fun k => k = B) w3).set (p := ⟨B, 4, none⟩) _ rfl).set (p := ⟨B, 3, none⟩) _ rfl
            have hkA : ((w3.setCell ⟨B, 4, none⟩ (.slice wa n3 wc)).setCell ⟨B, 3, none⟩ (.slice va (l2.length + 1) (lc - 1))).heap[B]? = some (.cells #[.int .i64 (S.n : Int), .slice ba S.q.length bc, .bool S.busy, .slice va (l2.length + 1) (lc - 1), .slice wa n3 wc] 42) := by
              have k1 := set_same (o := 4) (.slice wa n3 wc) ((HX3.out.block B (by omega)).trans HQ.out.pk.bw)
              have k2 := set_same (o := 3) (.slice va (l2.length + 1) (lc - 1)) k1
              rw [k2]
              simp
            have hUA : UsB (RpE D B) ((w3.setCell ⟨B, 4, none⟩ (.slice wa n3 wc)).setCell ⟨B, 3, none⟩ (.slice va (l2.length + 1) (lc - 1))) (.slice wa n3 wc) (t9 ++ [y]) := by
              have h8 := HV3.out
              rw [List.nil_append] at h8
              have en : n3 = (t9 ++ [y]).length := by rw [HN3.out]; simp
              have h9 : w3.ownsRow T6.heap.size 43 1 (.slice wa n3 wc) (t9 ++ [y]).length ((t9 ++ [y]).map W1) := by
                rw [List.map_append, ← en]
                exact h8
              exact ((usB_of_own h9 (D := fun k => k < T6.heap.size) fun _ h => h).fr (hfA.wide fun k hk => by omega)).mono fun k hk => by
                rcases hk with hk | hk
                · have := hb k hk; omega
                · omega
            have HK8 : Hid (RpIn D B { S with l := a2 :: l2, t := t9 ++ [y] } M R (.slice ba S.q.length bc) (.slice va (l2.length + 1) (lc - 1)) (.slice wa n3 wc) r e w wr ((w3.setCell ⟨B, 4, none⟩ (.slice wa n3 wc)).setCell ⟨B, 3, none⟩ (.slice va (l2.length + 1) (lc - 1)))) := by
              obtain ⟨us8, h1, h2⟩ := HQ.out.pk.vs.b
              exact Lib.hid ((HQ.out.pk.grow HX3.out).lay (S' := { S with l := a2 :: l2, t := t9 ++ [y] }) hfA hkA ⟨⟨us8, (h1.ext HX3.out).fr (hfA.wide fun k hk => .inr (by omega)), h2⟩, ⟨_, _, _, rfl⟩, ⟨_, _, _, rfl⟩, fun _ => HVL.out, fun _ => hUA⟩)
            have HR8 := Lib.hid ((HQ.out.ref.ext HX3.out).fd hfA (fun k hk => .inr (by omega)))
            have HBD8 := Lib.hid ((hfA.block bd (Nat.lt_of_lt_of_le (heap_lt HQ.out.box) HX3.out.size) (by omega)).trans ((HX3.out.block bd (heap_lt HQ.out.box)).trans HQ.out.box))
            have HU8 := Lib.hid hUA
            clear hUA hkA hfA c0 c1 c2 c3 c4 cz ll HV3 HX3 HX2 HV2 HQ HVL HEVA HNW H0 HT2
            replace HK8 := HK8.out
            replace HR8 := HR8.out
            replace HBD8 := HBD8.out
            replace HU8 := HU8.out
            generalize (World.setCell _ (⟨B, 3, none⟩ : Addr) _) = T8 at HK8 HR8 HBD8 HU8 ⊢
            replace HK8 := Lib.hid HK8
            replace HR8 := Lib.hid HR8
            replace HBD8 := Lib.hid HBD8
            replace HU8 := Lib.hid HU8
            obtain ⟨c0, c1, c2, c3, c4, cz, ll⟩ := fiv_of HK8.out.bw
            simp only at c0 c2
            rw [HBU.out] at c2
            go_wp2
            have HR := HR8
            have HU : Hid (UsB (RpE D B) T8 (.slice none 0 0) []) := Lib.hid (UsB.nil _ _)

            have m0 : T8.cell? ⟨bd, 0, none⟩ = some (.slice R2.wa M2.n R2.wc) := cell_at HBD8.out rfl
            have m1 : T8.cell? ⟨bd, 1, none⟩ = some (.slice R2.ea M2.n R2.ec) := cell_at HBD8.out rfl
            have m2 : T8.cell? ⟨bd, 2, none⟩ = some (.int .i64 M2.ct) := cell_at HBD8.out rfl
            have ml := heap_lt HBD8.out

            have HKE := Lib.hid (HK8.out.grow (ext_drew (ext_refl T8)))
            have hb3 : B < B + 3 := by omega
            have hb31 : B + 1 < B + 3 := by omega
            have hBT : B + 6 ≤ T8.heap.size := HK8.out.big
            have hBTd : B + 6 ≤ T8.drew.heap.size := HKE.out.big
            have F0 : Fr (B + 3) (B + 6) T8 T8.drew := .of_ext (ext_drew (ext_refl T8))
            refine wp_region_mix (fun y => ∃ s, y = off (B + 3) (B + 6) T8 s) [(0, [0, 1, 2]), (1, [3]), (1, [4]), (1, [5])] (by kernel_rfl) (by kernel_rfl) (off_of F0) ?_
            simp only [pieces, pickL, List.map_cons, List.map_nil, List.getD_cons_zero, List.getD_cons_succ]
            refine mix_reads ?_
            repeat (go_big_quiet_step (fail))
            refine wpQuiet_nil (mix_acts ?_)
            obtain ⟨e0, e1, e2, e3, e4, ez, el⟩ := fiv_of HKE.out.r3
            have g0 : T8.drew.cell? ⟨B + 4, 0, none⟩ = some (.slice none 0 0) := cell_at HKE.out.r4 rfl
            have g1 : T8.drew.cell? ⟨B + 4, 1, none⟩ = some (.slice none 0 0) := cell_at HKE.out.r4 rfl
            have g2 : T8.drew.cell? ⟨B + 4, 2, none⟩ = some (.int .i64 0) := cell_at HKE.out.r4 rfl
            have gz := fun o => free_at (o := o) HKE.out.r4
            have gl := heap_lt HKE.out.r4
            have j0 : T8.drew.cell? ⟨B + 5, 0, none⟩ = some (.int .i64 0) := cell_at HKE.out.r5 rfl
            have j1 : T8.drew.cell? ⟨B + 5, 1, none⟩ = some (.slice none 0 0) := cell_at HKE.out.r5 rfl
            have jz := fun o => free_at (o := o) HKE.out.r5
            have jl := heap_lt HKE.out.r5
            have hRE := Lib.hid (HR.out.ext (ext_drew (ext_refl T8)))
            have hUE := Lib.hid (HU.out.fr (.of_ext (ext_drew (ext_refl T8))))
            generalize T8.drew = Td at *
            have F1 := ((((F0.set (p := ⟨B + 3, 0, none⟩) (.int .i64 (S.n : Int)) (by simp) (by simp)).set (p := ⟨B + 3, 1, none⟩) (.slice ba S.q.length bc) (by simp) (by simp)).set (p := ⟨B + 3, 2, none⟩) (.bool true) (by simp) (by simp)).set (p := ⟨B + 3, 3, none⟩) (.slice va (l2.length + 1) (lc - 1)) (by simp) (by simp)).set (p := ⟨B + 3, 4, none⟩) (.slice wa n3 wc) (by simp) (by simp)
            have F2 := ((F1.set (p := ⟨B + 4, 0, none⟩) (.slice R2.wa M2.n R2.wc) (by simp) (by simp)).set (p := ⟨B + 4, 1, none⟩) (.slice R2.ea M2.n R2.ec) (by simp) (by simp)).set (p := ⟨B + 4, 2, none⟩) (.int .i64 M2.ct) (by simp) (by simp)
            have F3 := (F2.set (p := ⟨B + 5, 0, none⟩) (.int .i64 (1 : Int)) (by simp) (by simp)).set (p := ⟨B + 5, 1, none⟩) (.slice none 0 0) (by simp) (by simp)
            have FF := Lib.hid (And.intro F1 (And.intro F2 F3))
            clear F1 F2 F3 F0
            skip
            go_wp2
            refine mixQ_mk (off_of FF.out.1) (mix_acts ?_)
            go_wp2
            refine mixQ_mk (off_of FF.out.2.1) (mix_acts ?_)
            go_wp2
            refine mixQ_mk (off_of FF.out.2.2) (mix_end ?_)
            go_wp2
            have hend := HKE.out.ends hRE.out x 1 [] none 0 (by rw [← HX.out, HE.out]) hUE.out
            unfold putE wV at hend
            simp only [HBU.out] at hend
            exact bodyPost_ret (v := .tuple #[.agg #[.int .i64 (S.n : Int), .slice ba S.q.length bc, .bool true, .slice va (l2.length + 1) (lc - 1), .slice wa n3 wc], refV R2 M2, .agg #[.int .i64 1, .slice none 0 0]]) (by simp only [results, Try.results19, go_sem]; simp [go_sem, e0, e1, e2, e3, e4, g0, g1, g2, j0, j1, refV]) rfl hend

      · simp only [pickL, List.map_cons, List.map_nil, List.getD_cons_zero, List.getD_cons_succ]
        go_wp2
        obtain ⟨V, hV⟩ : ∃ V, V = T4.drew.alloc (.cells #[.slice none 0 0, .slice none 0 0, .int .i64 0] 33) := ⟨_, rfl⟩
        obtain ⟨bd, hbd⟩ : ∃ bd, bd = T4.heap.size := ⟨_, rfl⟩
        first | rw [← hV, ← hbd] | (rw [show (T4.alloc (.cells #[.slice none 0 0, .slice none 0 0, .int .i64 0] 33)).drew = T4.drew.alloc (.cells #[.slice none 0 0, .slice none 0 0, .int .i64 0] 33) from rfl, ← hV, ← hbd])
        have HEV : Hid (Ext T4 V) := Lib.hid (by rw [hV]; exact ext_alloc _ (ext_drew (ext_refl T4)))
        have HBD : Hid (V.heap[bd]? = some (.cells #[.slice none 0 0, .slice none 0 0, .int .i64 0] 33)) := Lib.hid (by rw [hV]; exact heap_at _ _ _ hbd)
        have HBd : Hid (T4.heap.size ≤ bd) := Lib.hid (by rw [hbd]; exact Nat.le_refl _)
        have HRV : Hid (RefIn (fun b => ¬ RpE D B b ∧ b ≠ bd) R M V) := Lib.hid (by rw [hV, hbd]; exact (HK.out.ref.ext (ext_drew (ext_refl T4))).avoid _)
        clear hV hbd
        refine mixQ_mk (over_of HEV.out) (ways_act 6 (by kernel_rfl) ?_)
        simp only [pickL, List.map_cons, List.map_nil, List.getD_cons_zero, List.getD_cons_succ]
        go_wp2_with (go_at_call 38; refine (rdo_any HRV.out r e a1 y okb HSP.out).mono ?_; rintro en X1 ⟨R2, rfl, hr, hx⟩; have HR2 := Lib.hid hr; have HX1 := Lib.hid (ext_trans HEV.out hx); have HBD1 := Lib.hid ((hx.block bd (heap_lt HBD.out)).trans HBD.out); clear hr hx; unfold refV)
        refine mixQ_mk (over_of HX1.out) (ways_reads [7, 8, 9, 10] (by kernel_rfl) ?_)
        simp only [pickL, List.map_cons, List.map_nil, List.getD_cons_zero, List.getD_cons_succ]
        repeat (go_big_quiet_step (fail))
        refine wpQuiet_nil (ways_act 12 (by kernel_rfl) ?_)
        simp only [pickL, List.map_cons, List.map_nil, List.getD_cons_zero, List.getD_cons_succ]
        have p0 : X1.cell? ⟨bd, 0, none⟩ = some (.slice none 0 0) := cell_at HBD1.out rfl
        have p1 : X1.cell? ⟨bd, 1, none⟩ = some (.slice none 0 0) := cell_at HBD1.out rfl
        have p2 : X1.cell? ⟨bd, 2, none⟩ = some (.int .i64 0) := cell_at HBD1.out rfl
        have pz := fun o => free_at (o := o) HBD1.out
        have pl := heap_lt HBD1.out
        have hbdn : ¬ (¬ RpE D B bd ∧ bd ≠ bd) := fun h => h.2 rfl
        have HQ : Hid (RpQ D B S M R (.slice ba S.q.length bc) (.slice la l9.length lc) (.slice ta t9.length tc) r e w wr bd M2 R2 (((X1.setCell ⟨bd, 0, none⟩ (.slice R2.wa M2.n R2.wc)).setCell ⟨bd, 1, none⟩ (.slice R2.ea M2.n R2.ec)).setCell ⟨bd, 2, none⟩ (.int .i64 M2.ct))) :=
          Lib.hid ⟨HK.out.far HX1.out HBd.out _ _ _, (((HR2.out.setOut (p := ⟨bd, 0, none⟩) _ hbdn).setOut (p := ⟨bd, 1, none⟩) _ hbdn).setOut (p := ⟨bd, 2, none⟩) _ hbdn).mono fun _ h => h.1, put3_block _ _ _ HBD1.out, by have := HK.out.big; have := HBd.out; omega⟩
        have HT2 := Lib.hid (HT.out.late HX1.out HBd.out (.slice R2.wa M2.n R2.wc) (.slice R2.ea M2.n R2.ec) (.int .i64 M2.ct))
        have HZ := Lib.hid (ext_set (.int .i64 M2.ct) (p := ⟨bd, 2, none⟩) HBd.out (ext_set (.slice R2.ea M2.n R2.ec) (p := ⟨bd, 1, none⟩) HBd.out (ext_set (.slice R2.wa M2.n R2.wc) (p := ⟨bd, 0, none⟩) HBd.out HX1.out)))
        go_wp2
        refine mixQ_mk (over_of HZ.out) (ways_reads [13, 14] (by kernel_rfl) ?_)
        simp only [pickL, List.map_cons, List.map_nil, List.getD_cons_zero, List.getD_cons_succ]
        repeat (go_big_quiet_step (fail))
        refine wpQuiet_nil (ways_end (by kernel_rfl) ?_)
        clear p0 p1 p2 pz pl
        replace HQ := HQ.out
        replace HT2 := HT2.out
        generalize (World.setCell _ (⟨bd, 2, none⟩ : Addr) _) = T6 at HQ HT2 ⊢
        replace HQ := Lib.hid HQ
        replace HT2 := Lib.hid HT2
        clear HZ HR2 HX1 HK HT HRV HBD HBD1 HEV HBd hbdn
        cases okb with
        | false =>
          have HE : Hid (goF r e M S = (M, S.rest, 3, [])) := by
            rcases HSP.out with ⟨_, _, _, h⟩ | ⟨hd, _⟩
            · cases h
            · exact Lib.hid (goF_no (HSL.out.trans HL.out) hd)
          obtain ⟨c0, c1, c2, c3, c4, cz, ll⟩ := fiv_of HQ.out.pk.bw
          have m0 : T6.cell? ⟨B + 1, 0, none⟩ = some (.slice R.wa M.n R.wc) := cell_at HQ.out.pk.bm rfl
          have m1 : T6.cell? ⟨B + 1, 1, none⟩ = some (.slice R.ea M.n R.ec) := cell_at HQ.out.pk.bm rfl
          have m2 : T6.cell? ⟨B + 1, 2, none⟩ = some (.int .i64 M.ct) := cell_at HQ.out.pk.bm rfl
          have ml := heap_lt HQ.out.pk.bm

          rw [HBU.out] at c2
          go_wp2
          have hf5 : FD (fun k => k = B) T6 (T6.setCell ⟨B, 2, none⟩ (.bool false)) := (FD.refl (fun k => k = B) T6).set (p := ⟨B, 2, none⟩) _ rfl
          have hk5 : (T6.setCell ⟨B, 2, none⟩ (.bool false)).heap[B]? = some (.cells #[.int .i64 (S.n : Int), .slice ba S.q.length bc, .bool false, .slice la l9.length lc, .slice ta t9.length tc] 42) := by
            have k1 := set_same (o := 2) (.bool false) HQ.out.pk.bw
            rw [k1]
            simp
          have HK7 : Hid (RpIn D B S.rest M R (.slice ba S.q.length bc) (.slice la l9.length lc) (.slice ta t9.length tc) r e w wr (T6.setCell ⟨B, 2, none⟩ (.bool false))) :=
            Lib.hid (HQ.out.pk.lay (S' := S.rest) hf5 hk5 (((HQ.out.pk.vs.fr (hf5.wide fun k hk => .inr (by omega))).rests _ _ ⟨_, _, _, rfl⟩ ⟨_, _, _, rfl⟩)))
          clear c0 c1 c2 c3 c4 cz ll m0 m1 m2 ml hf5 hk5 HQ HT2
          generalize T6.setCell ⟨B, 2, none⟩ (.bool false) = T7 at HK7 ⊢
          have HR := Lib.hid HK7.out.ref
          have HU : Hid (UsB (RpE D B) T7 (.slice none 0 0) []) := Lib.hid (UsB.nil _ _)
          obtain ⟨c0, c1, c2, c3, c4, cz, ll⟩ := fiv_of HK7.out.bw
          have m0 : T7.cell? ⟨B + 1, 0, none⟩ = some (.slice R.wa M.n R.wc) := cell_at HK7.out.bm rfl
          have m1 : T7.cell? ⟨B + 1, 1, none⟩ = some (.slice R.ea M.n R.ec) := cell_at HK7.out.bm rfl
          have m2 : T7.cell? ⟨B + 1, 2, none⟩ = some (.int .i64 M.ct) := cell_at HK7.out.bm rfl
          have ml := heap_lt HK7.out.bm
          have HKE := Lib.hid (HK7.out.grow (ext_drew (ext_refl T7)))
          have hb3 : B < B + 3 := by omega
          have hb31 : B + 1 < B + 3 := by omega
          have hBT : B + 6 ≤ T7.heap.size := HK7.out.big
          have hBTd : B + 6 ≤ T7.drew.heap.size := HKE.out.big
          have F0 : Fr (B + 3) (B + 6) T7 T7.drew := .of_ext (ext_drew (ext_refl T7))
          refine wp_region_mix (fun y => ∃ s, y = off (B + 3) (B + 6) T7 s) [(0, [0, 1, 2]), (1, [3]), (1, [4]), (1, [5])] (by kernel_rfl) (by kernel_rfl) (off_of F0) ?_
          simp only [pieces, pickL, List.map_cons, List.map_nil, List.getD_cons_zero, List.getD_cons_succ]
          refine mix_reads ?_
          repeat (go_big_quiet_step (fail))
          refine wpQuiet_nil (mix_acts ?_)
          obtain ⟨e0, e1, e2, e3, e4, ez, el⟩ := fiv_of HKE.out.r3
          have g0 : T7.drew.cell? ⟨B + 4, 0, none⟩ = some (.slice none 0 0) := cell_at HKE.out.r4 rfl
          have g1 : T7.drew.cell? ⟨B + 4, 1, none⟩ = some (.slice none 0 0) := cell_at HKE.out.r4 rfl
          have g2 : T7.drew.cell? ⟨B + 4, 2, none⟩ = some (.int .i64 0) := cell_at HKE.out.r4 rfl
          have gz := fun o => free_at (o := o) HKE.out.r4
          have gl := heap_lt HKE.out.r4
          have j0 : T7.drew.cell? ⟨B + 5, 0, none⟩ = some (.int .i64 0) := cell_at HKE.out.r5 rfl
          have j1 : T7.drew.cell? ⟨B + 5, 1, none⟩ = some (.slice none 0 0) := cell_at HKE.out.r5 rfl
          have jz := fun o => free_at (o := o) HKE.out.r5
          have jl := heap_lt HKE.out.r5
          have hRE := Lib.hid (HR.out.ext (ext_drew (ext_refl T7)))
          have hUE := Lib.hid (HU.out.fr (.of_ext (ext_drew (ext_refl T7))))
          generalize T7.drew = Td at *
          have F1 := ((((F0.set (p := ⟨B + 3, 0, none⟩) (.int .i64 (S.n : Int)) (by simp) (by simp)).set (p := ⟨B + 3, 1, none⟩) (.slice ba S.q.length bc) (by simp) (by simp)).set (p := ⟨B + 3, 2, none⟩) (.bool false) (by simp) (by simp)).set (p := ⟨B + 3, 3, none⟩) (.slice la l9.length lc) (by simp) (by simp)).set (p := ⟨B + 3, 4, none⟩) (.slice ta t9.length tc) (by simp) (by simp)
          have F2 := ((F1.set (p := ⟨B + 4, 0, none⟩) (.slice R.wa M.n R.wc) (by simp) (by simp)).set (p := ⟨B + 4, 1, none⟩) (.slice R.ea M.n R.ec) (by simp) (by simp)).set (p := ⟨B + 4, 2, none⟩) (.int .i64 M.ct) (by simp) (by simp)
          have F3 := (F2.set (p := ⟨B + 5, 0, none⟩) (.int .i64 (3 : Int)) (by simp) (by simp)).set (p := ⟨B + 5, 1, none⟩) (.slice none 0 0) (by simp) (by simp)
          have FF := Lib.hid (And.intro F1 (And.intro F2 F3))
          clear F1 F2 F3 F0
          skip
          go_wp2
          refine mixQ_mk (off_of FF.out.1) (mix_acts ?_)
          go_wp2
          refine mixQ_mk (off_of FF.out.2.1) (mix_acts ?_)
          go_wp2
          refine mixQ_mk (off_of FF.out.2.2) (mix_end ?_)
          go_wp2
          have hend := HKE.out.ends hRE.out x 3 [] none 0 (by rw [← HX.out, HE.out]) hUE.out
          unfold putE at hend
          exact bodyPost_ret (v := .tuple #[wV S.rest (.slice ba S.q.length bc) (.slice la l9.length lc) (.slice ta t9.length tc), refV R M, .agg #[.int .i64 3, .slice none 0 0]]) (by simp only [results, Try.results19, go_sem]; simp [go_sem, e0, e1, e2, e3, e4, g0, g1, g2, j0, j1, wV, refV]) rfl hend

        | true =>
          obtain ⟨hd, hM2, hy⟩ : DoOk M r e a1.op a1.at_ ∧ M2 = M.done r a1.op a1.at_ a1.a a1.b ∧ y = M.wd r.toNat a1.at_.toNat := by
            rcases HSP.out with ⟨h1, h2, h3, _⟩ | ⟨_, _, _, h⟩
            · exact ⟨h1, h2, h3⟩
            · cases h
          have HDO := Lib.hid (And.intro hd (And.intro hM2 hy))
          clear hd hM2 hy HSP
          obtain ⟨c0, c1, c2, c3, c4, cz, ll⟩ := fiv_of HQ.out.pk.bw
          have m0 : T6.cell? ⟨B + 1, 0, none⟩ = some (.slice R.wa M.n R.wc) := cell_at HQ.out.pk.bm rfl
          have m1 : T6.cell? ⟨B + 1, 1, none⟩ = some (.slice R.ea M.n R.ec) := cell_at HQ.out.pk.bm rfl
          have m2 : T6.cell? ⟨B + 1, 2, none⟩ = some (.int .i64 M.ct) := cell_at HQ.out.pk.bm rfl
          have ml := heap_lt HQ.out.pk.bm

          rw [HLN.out, HLA.out] at c3
          rw [HBU.out] at c2
          have H0 : Hid (ta = none → t9.length = 0) := Lib.hid (by
            first
              | exact fun _ => rfl
              | (intro e0; obtain ⟨a9, c9, e9, _, h9⟩ := HT2.out; simp at e9; obtain ⟨rfl, rfl⟩ := e9; by_cases hp : 0 < t9.length
                 · obtain ⟨b9, o9, ea9, _⟩ := h9 hp; rw [e0] at ea9; cases ea9
                 · omega))
          have HNW : Hid (∀ ad, ta = some ad → ∀ j u, ((t9).map W1)[j]? = some u → (T6.alloc (.cells #[] 43)).cell? (ad.add j) = some u) := Lib.hid (by
            intro ad ea
            first
              | (cases ea; done)
              | exact news_us (by rw [← ea]; exact HT2.out.us.ext (ext_alloc _ (ext_refl T6))))
          have h6 := HQ.out.pk.big
          have hfar := HQ.out.far
          go_wp2_with (at_builtin; refine Hid.out ?_)
          refine Lib.hid ?_
          refine wpList_append_opt rfl (.tmp 60) (.tmp 62) 31 rfl T6.heap.size 43 iU (.int .u64 0) 1 8 Try.underlying31 hiU hy0 hy1 hy2 rfl (by decide) (.slice (some ⟨T6.heap.size, 0, none⟩) 0 0) 0 [] rfl (own_none _ _ _ _ _ rfl (Nat.le_refl _)) ta (t9.length) tc ((t9).map W1) rfl H0.out (by simp) HNW.out (ones_us _) (by unfold maxLen; omega) (by omega) (by simp) ?_
          intro v2 w2 hv2 hg2
          have HV2 := Lib.hid hv2
          have HX2 := Lib.hid (ext_own (w := T6) (ext_alloc _ (ext_refl T6)) (own_none T6 T6.heap.size 43 1 T6.heap.size rfl (Nat.le_refl _)) hg2)
          clear hv2 hg2 c0 c1 c2 c3 c4 cz ll m0 m1 m2 ml
          have hva : ∃ va, va = (if lc = 1 then some (⟨b1, o1, none⟩ : Addr) else some ⟨b1, o1 + 4, none⟩) ∧ (0 < l1.length → va = some ⟨b1, o1 + 4, none⟩) := ⟨_, rfl, fun h => if_neg (by have h8 := HA.out; have h7 := HLN.out; obtain ⟨_, _, e8, h9, _⟩ := h8; simp at e8; omega)⟩
          obtain ⟨va, eva, hva⟩ := hva
          have HVL : Hid (AsB (fun _ => False) w (.slice va l1.length (lc - 1)) l1) := by
            have h8 := HA.out
            rw [HL.out, HLA.out] at h8
            obtain ⟨_, _, e8, h9, _⟩ := id h8
            simp at e8
            exact Lib.hid (AsB.tail (a := a1) h8 va (lc - 1) hva (by simp at h9; omega))
          have HEVA := Lib.hid eva
          clear hva eva
          cases l1 with
          | nil =>
            have HE : Hid (goF r e M S = (M2, S.rest, 2, (t9) ++ [y])) := Lib.hid (by rw [goF_last (HSL.out.trans HL.out) HDO.out.1, HDO.out.2.1, HDO.out.2.2, HST.out])
            go_upto_region 17 with (at_builtin; refine wpList_append_own _ rfl (.tmp 63) (.tmp 65) 31 rfl T6.heap.size 43 iU (.int .u64 0) 1 8 Try.underlying31 hiU hy0 hy1 hy2 rfl (by decide) v2 (0 + t9.length) ([] ++ (t9).map W1) rfl (own_ext' HV2.out (ext_alloc _ (ext_refl w2))) ⟨w2.heap.size, 0, none⟩ 1 1 [.int .u64 (U y)] rfl rfl (newp _ _ _ _ rfl) (by simp [Value.oneCell']) (by unfold maxLen; omega) (by omega) (by have := HX2.out.size; simp; omega) ?_; intro v3 w3 hv3 hg3 hn3; obtain ⟨wa, wc, rfl⟩ := own_shape hv3; obtain ⟨n3, en3⟩ : ∃ n3, n3 = 0 + t9.length + 1 := ⟨_, rfl⟩; have HX3 := Lib.hid (ext_own (w := T6) (ext_alloc _ HX2.out) (own_ext' HV2.out (ext_alloc _ (ext_refl w2))) hg3); rw [← en3] at hv3 ⊢; have HV3 := Lib.hid hv3; have HN3 := Lib.hid en3; clear hv3 hg3 hn3 en3; have hkk := (HX3.out.block B (by omega)).trans HQ.out.pk.bw; obtain ⟨c0, c1, c2, c3, c4, cz, ll⟩ := fiv_of hkk; rw [HLN.out, HLA.out] at c3; rw [HBU.out] at c2; clear hkk)
            try rw [← HEVA.out]
            have hfA : FD (fun k => k = B) w3 ((w3.setCell ⟨B, 4, none⟩ (.slice wa n3 wc)).setCell ⟨B, 3, none⟩ (.slice va 0 (lc - 1))) := ((FD.refl (fun k => k = B) w3).set (p := ⟨B, 4, none⟩) _ rfl).set (p := ⟨B, 3, none⟩) _ rfl
            have hkA : ((w3.setCell ⟨B, 4, none⟩ (.slice wa n3 wc)).setCell ⟨B, 3, none⟩ (.slice va 0 (lc - 1))).heap[B]? = some (.cells #[.int .i64 (S.n : Int), .slice ba S.q.length bc, .bool S.busy, .slice va 0 (lc - 1), .slice wa n3 wc] 42) := by
              have k1 := set_same (o := 4) (.slice wa n3 wc) ((HX3.out.block B (by omega)).trans HQ.out.pk.bw)
              have k2 := set_same (o := 3) (.slice va 0 (lc - 1)) k1
              rw [k2]
              simp
            have hUA : UsB (RpE D B) ((w3.setCell ⟨B, 4, none⟩ (.slice wa n3 wc)).setCell ⟨B, 3, none⟩ (.slice va 0 (lc - 1))) (.slice wa n3 wc) (t9 ++ [y]) := by
              have h8 := HV3.out
              rw [List.nil_append] at h8
              have en : n3 = (t9 ++ [y]).length := by rw [HN3.out]; simp
              have h9 : w3.ownsRow T6.heap.size 43 1 (.slice wa n3 wc) (t9 ++ [y]).length ((t9 ++ [y]).map W1) := by
                rw [List.map_append, ← en]
                exact h8
              exact ((usB_of_own h9 (D := fun k => k < T6.heap.size) fun _ h => h).fr (hfA.wide fun k hk => by omega)).mono fun k hk => by
                rcases hk with hk | hk
                · have := hb k hk; omega
                · omega
            have HK8 : Hid (RpIn D B { S with l := [], t := t9 ++ [y] } M R (.slice ba S.q.length bc) (.slice va 0 (lc - 1)) (.slice wa n3 wc) r e w wr ((w3.setCell ⟨B, 4, none⟩ (.slice wa n3 wc)).setCell ⟨B, 3, none⟩ (.slice va 0 (lc - 1)))) := by
              obtain ⟨us8, h1, h2⟩ := HQ.out.pk.vs.b
              exact Lib.hid ((HQ.out.pk.grow HX3.out).lay (S' := { S with l := [], t := t9 ++ [y] }) hfA hkA ⟨⟨us8, (h1.ext HX3.out).fr (hfA.wide fun k hk => .inr (by omega)), h2⟩, ⟨_, _, _, rfl⟩, ⟨_, _, _, rfl⟩, fun _ => HVL.out, fun _ => hUA⟩)
            have HR8 := Lib.hid ((HQ.out.ref.ext HX3.out).fd hfA (fun k hk => .inr (by omega)))
            have HBD8 := Lib.hid ((hfA.block bd (Nat.lt_of_lt_of_le (heap_lt HQ.out.box) HX3.out.size) (by omega)).trans ((HX3.out.block bd (heap_lt HQ.out.box)).trans HQ.out.box))
            have HU8 := Lib.hid hUA
            clear hUA hkA hfA c0 c1 c2 c3 c4 cz ll HV3 HX3 HX2 HV2 HQ HVL HEVA HNW H0 HT2
            replace HK8 := HK8.out
            replace HR8 := HR8.out
            replace HBD8 := HBD8.out
            replace HU8 := HU8.out
            generalize (World.setCell _ (⟨B, 3, none⟩ : Addr) _) = T8 at HK8 HR8 HBD8 HU8 ⊢
            replace HK8 := Lib.hid HK8
            replace HR8 := Lib.hid HR8
            replace HBD8 := Lib.hid HBD8
            replace HU8 := Lib.hid HU8
            obtain ⟨c0, c1, c2, c3, c4, cz, ll⟩ := fiv_of HK8.out.bw
            simp only at c0 c2
            rw [HBU.out] at c2
            go_wp2
            have hf5 : FD (fun k => k = B) T8 (T8.setCell ⟨B, 2, none⟩ (.bool false)) := (FD.refl (fun k => k = B) T8).set (p := ⟨B, 2, none⟩) _ rfl
            have hk5 : (T8.setCell ⟨B, 2, none⟩ (.bool false)).heap[B]? = some (.cells #[.int .i64 (S.n : Int), .slice ba S.q.length bc, .bool false, .slice va 0 (lc - 1), .slice wa n3 wc] 42) := by
              have k1 := set_same (o := 2) (.bool false) HK8.out.bw
              rw [k1]
              simp
            have HK9 : Hid (RpIn D B S.rest M R (.slice ba S.q.length bc) (.slice va 0 (lc - 1)) (.slice wa n3 wc) r e w wr (T8.setCell ⟨B, 2, none⟩ (.bool false))) :=
              Lib.hid (HK8.out.lay (S' := S.rest) hf5 hk5 (((HK8.out.vs.fr (hf5.wide fun k hk => .inr (by omega))).rests _ _ ⟨_, _, _, rfl⟩ ⟨_, _, _, rfl⟩)))
            have HU := Lib.hid (HU8.out.fr (hf5.wide fun k hk => .inr (by omega)))
            have HR := Lib.hid (HR8.out.fd hf5 (fun k hk => .inr (by omega)))
            have HBD9 := Lib.hid ((hf5.block bd (heap_lt HBD8.out) (by omega)).trans HBD8.out)
            clear c0 c1 c2 c3 c4 cz ll hf5 hk5 HK8 HU8 HR8 HBD8
            generalize T8.setCell ⟨B, 2, none⟩ (.bool false) = T9 at HK9 HU HR HBD9 ⊢
            obtain ⟨c0, c1, c2, c3, c4, cz, ll⟩ := fiv_of HK9.out.bw

            have m0 : T9.cell? ⟨bd, 0, none⟩ = some (.slice R2.wa M2.n R2.wc) := cell_at HBD9.out rfl
            have m1 : T9.cell? ⟨bd, 1, none⟩ = some (.slice R2.ea M2.n R2.ec) := cell_at HBD9.out rfl
            have m2 : T9.cell? ⟨bd, 2, none⟩ = some (.int .i64 M2.ct) := cell_at HBD9.out rfl
            have ml := heap_lt HBD9.out

            have HKE := Lib.hid (HK9.out.grow (ext_drew (ext_refl T9)))
            have hb3 : B < B + 3 := by omega
            have hb31 : B + 1 < B + 3 := by omega
            have hBT : B + 6 ≤ T9.heap.size := HK9.out.big
            have hBTd : B + 6 ≤ T9.drew.heap.size := HKE.out.big
            have F0 : Fr (B + 3) (B + 6) T9 T9.drew := .of_ext (ext_drew (ext_refl T9))
            refine wp_region_mix (fun y => ∃ s, y = off (B + 3) (B + 6) T9 s) [(0, [0, 1, 2, 3, 4]), (1, [5]), (1, [6]), (1, [7])] (by kernel_rfl) (by kernel_rfl) (off_of F0) ?_
            simp only [pieces, pickL, List.map_cons, List.map_nil, List.getD_cons_zero, List.getD_cons_succ]
            refine mix_reads ?_
            repeat (go_big_quiet_step (fail))
            refine wpQuiet_nil (mix_acts ?_)
            obtain ⟨e0, e1, e2, e3, e4, ez, el⟩ := fiv_of HKE.out.r3
            have g0 : T9.drew.cell? ⟨B + 4, 0, none⟩ = some (.slice none 0 0) := cell_at HKE.out.r4 rfl
            have g1 : T9.drew.cell? ⟨B + 4, 1, none⟩ = some (.slice none 0 0) := cell_at HKE.out.r4 rfl
            have g2 : T9.drew.cell? ⟨B + 4, 2, none⟩ = some (.int .i64 0) := cell_at HKE.out.r4 rfl
            have gz := fun o => free_at (o := o) HKE.out.r4
            have gl := heap_lt HKE.out.r4
            have j0 : T9.drew.cell? ⟨B + 5, 0, none⟩ = some (.int .i64 0) := cell_at HKE.out.r5 rfl
            have j1 : T9.drew.cell? ⟨B + 5, 1, none⟩ = some (.slice none 0 0) := cell_at HKE.out.r5 rfl
            have jz := fun o => free_at (o := o) HKE.out.r5
            have jl := heap_lt HKE.out.r5
            have hRE := Lib.hid (HR.out.ext (ext_drew (ext_refl T9)))
            have hUE := Lib.hid (HU.out.fr (.of_ext (ext_drew (ext_refl T9))))
            generalize T9.drew = Td at *
            have F1 := ((((F0.set (p := ⟨B + 3, 0, none⟩) (.int .i64 (S.n : Int)) (by simp) (by simp)).set (p := ⟨B + 3, 1, none⟩) (.slice ba S.q.length bc) (by simp) (by simp)).set (p := ⟨B + 3, 2, none⟩) (.bool false) (by simp) (by simp)).set (p := ⟨B + 3, 3, none⟩) (.slice va 0 (lc - 1)) (by simp) (by simp)).set (p := ⟨B + 3, 4, none⟩) (.slice wa n3 wc) (by simp) (by simp)
            have F2 := ((F1.set (p := ⟨B + 4, 0, none⟩) (.slice R2.wa M2.n R2.wc) (by simp) (by simp)).set (p := ⟨B + 4, 1, none⟩) (.slice R2.ea M2.n R2.ec) (by simp) (by simp)).set (p := ⟨B + 4, 2, none⟩) (.int .i64 M2.ct) (by simp) (by simp)
            have F3 := (F2.set (p := ⟨B + 5, 0, none⟩) (.int .i64 (2 : Int)) (by simp) (by simp)).set (p := ⟨B + 5, 1, none⟩) (.slice wa n3 wc) (by simp) (by simp)
            have FF := Lib.hid (And.intro F1 (And.intro F2 F3))
            clear F1 F2 F3 F0
            skip
            go_wp2
            refine mixQ_mk (off_of FF.out.1) (mix_acts ?_)
            go_wp2
            refine mixQ_mk (off_of FF.out.2.1) (mix_acts ?_)
            go_wp2
            refine mixQ_mk (off_of FF.out.2.2) (mix_end ?_)
            go_wp2
            have hend := HKE.out.endsN hRE.out x 2 (t9 ++ [y]) wa n3 wc (by rw [HN3.out]; simp) (by rw [← HX.out, HE.out]) hUE.out
            unfold putE at hend
            exact bodyPost_ret (v := .tuple #[wV S.rest (.slice ba S.q.length bc) (.slice va 0 (lc - 1)) (.slice wa n3 wc), refV R2 M2, .agg #[.int .i64 2, .slice wa n3 wc]]) (by simp only [results, Try.results19, go_sem]; simp [go_sem, e0, e1, e2, e3, e4, g0, g1, g2, j0, j1, wV, refV]) rfl hend
          | cons a2 l2 =>
            have HE : Hid (goF r e M S = (M2, { S with l := a2 :: l2, t := (t9) ++ [y] }, 1, [])) := Lib.hid (by rw [goF_step (HSL.out.trans HL.out) HDO.out.1, HDO.out.2.1, HDO.out.2.2, HST.out])
            go_upto_region 17 with (at_builtin; refine wpList_append_own _ rfl (.tmp 63) (.tmp 65) 31 rfl T6.heap.size 43 iU (.int .u64 0) 1 8 Try.underlying31 hiU hy0 hy1 hy2 rfl (by decide) v2 (0 + t9.length) ([] ++ (t9).map W1) rfl (own_ext' HV2.out (ext_alloc _ (ext_refl w2))) ⟨w2.heap.size, 0, none⟩ 1 1 [.int .u64 (U y)] rfl rfl (newp _ _ _ _ rfl) (by simp [Value.oneCell']) (by unfold maxLen; omega) (by omega) (by have := HX2.out.size; simp; omega) ?_; intro v3 w3 hv3 hg3 hn3; obtain ⟨wa, wc, rfl⟩ := own_shape hv3; obtain ⟨n3, en3⟩ : ∃ n3, n3 = 0 + t9.length + 1 := ⟨_, rfl⟩; have HX3 := Lib.hid (ext_own (w := T6) (ext_alloc _ HX2.out) (own_ext' HV2.out (ext_alloc _ (ext_refl w2))) hg3); rw [← en3] at hv3 ⊢; have HV3 := Lib.hid hv3; have HN3 := Lib.hid en3; clear hv3 hg3 hn3 en3; have hkk := (HX3.out.block B (by omega)).trans HQ.out.pk.bw; obtain ⟨c0, c1, c2, c3, c4, cz, ll⟩ := fiv_of hkk; rw [HLN.out, HLA.out] at c3; rw [HBU.out] at c2; clear hkk)
            try rw [← HEVA.out]
            have hfA : FD (fun k => k = B) w3 ((w3.setCell ⟨B, 4, none⟩ (.slice wa n3 wc)).setCell ⟨B, 3, none⟩ (.slice va (l2.length + 1) (lc - 1))) := ((FD.refl (fun k => k = B) w3).set (p := ⟨B, 4, none⟩) _ rfl).set (p := ⟨B, 3, none⟩) _ rfl
            have hkA : ((w3.setCell ⟨B, 4, none⟩ (.slice wa n3 wc)).setCell ⟨B, 3, none⟩ (.slice va (l2.length + 1) (lc - 1))).heap[B]? = some (.cells #[.int .i64 (S.n : Int), .slice ba S.q.length bc, .bool S.busy, .slice va (l2.length + 1) (lc - 1), .slice wa n3 wc] 42) := by
              have k1 := set_same (o := 4) (.slice wa n3 wc) ((HX3.out.block B (by omega)).trans HQ.out.pk.bw)
              have k2 := set_same (o := 3) (.slice va (l2.length + 1) (lc - 1)) k1
              rw [k2]
              simp
            have hUA : UsB (RpE D B) ((w3.setCell ⟨B, 4, none⟩ (.slice wa n3 wc)).setCell ⟨B, 3, none⟩ (.slice va (l2.length + 1) (lc - 1))) (.slice wa n3 wc) (t9 ++ [y]) := by
              have h8 := HV3.out
              rw [List.nil_append] at h8
              have en : n3 = (t9 ++ [y]).length := by rw [HN3.out]; simp
              have h9 : w3.ownsRow T6.heap.size 43 1 (.slice wa n3 wc) (t9 ++ [y]).length ((t9 ++ [y]).map W1) := by
                rw [List.map_append, ← en]
                exact h8
              exact ((usB_of_own h9 (D := fun k => k < T6.heap.size) fun _ h => h).fr (hfA.wide fun k hk => by omega)).mono fun k hk => by
                rcases hk with hk | hk
                · have := hb k hk; omega
                · omega
            have HK8 : Hid (RpIn D B { S with l := a2 :: l2, t := t9 ++ [y] } M R (.slice ba S.q.length bc) (.slice va (l2.length + 1) (lc - 1)) (.slice wa n3 wc) r e w wr ((w3.setCell ⟨B, 4, none⟩ (.slice wa n3 wc)).setCell ⟨B, 3, none⟩ (.slice va (l2.length + 1) (lc - 1)))) := by
              obtain ⟨us8, h1, h2⟩ := HQ.out.pk.vs.b
              exact Lib.hid ((HQ.out.pk.grow HX3.out).lay (S' := { S with l := a2 :: l2, t := t9 ++ [y] }) hfA hkA ⟨⟨us8, (h1.ext HX3.out).fr (hfA.wide fun k hk => .inr (by omega)), h2⟩, ⟨_, _, _, rfl⟩, ⟨_, _, _, rfl⟩, fun _ => HVL.out, fun _ => hUA⟩)
            have HR8 := Lib.hid ((HQ.out.ref.ext HX3.out).fd hfA (fun k hk => .inr (by omega)))
            have HBD8 := Lib.hid ((hfA.block bd (Nat.lt_of_lt_of_le (heap_lt HQ.out.box) HX3.out.size) (by omega)).trans ((HX3.out.block bd (heap_lt HQ.out.box)).trans HQ.out.box))
            have HU8 := Lib.hid hUA
            clear hUA hkA hfA c0 c1 c2 c3 c4 cz ll HV3 HX3 HX2 HV2 HQ HVL HEVA HNW H0 HT2
            replace HK8 := HK8.out
            replace HR8 := HR8.out
            replace HBD8 := HBD8.out
            replace HU8 := HU8.out
            generalize (World.setCell _ (⟨B, 3, none⟩ : Addr) _) = T8 at HK8 HR8 HBD8 HU8 ⊢
            replace HK8 := Lib.hid HK8
            replace HR8 := Lib.hid HR8
            replace HBD8 := Lib.hid HBD8
            replace HU8 := Lib.hid HU8
            obtain ⟨c0, c1, c2, c3, c4, cz, ll⟩ := fiv_of HK8.out.bw
            simp only at c0 c2
            rw [HBU.out] at c2
            go_wp2
            have HR := HR8
            have HU : Hid (UsB (RpE D B) T8 (.slice none 0 0) []) := Lib.hid (UsB.nil _ _)

            have m0 : T8.cell? ⟨bd, 0, none⟩ = some (.slice R2.wa M2.n R2.wc) := cell_at HBD8.out rfl
            have m1 : T8.cell? ⟨bd, 1, none⟩ = some (.slice R2.ea M2.n R2.ec) := cell_at HBD8.out rfl
            have m2 : T8.cell? ⟨bd, 2, none⟩ = some (.int .i64 M2.ct) := cell_at HBD8.out rfl
            have ml := heap_lt HBD8.out

            have HKE := Lib.hid (HK8.out.grow (ext_drew (ext_refl T8)))
            have hb3 : B < B + 3 := by omega
            have hb31 : B + 1 < B + 3 := by omega
            have hBT : B + 6 ≤ T8.heap.size := HK8.out.big
            have hBTd : B + 6 ≤ T8.drew.heap.size := HKE.out.big
            have F0 : Fr (B + 3) (B + 6) T8 T8.drew := .of_ext (ext_drew (ext_refl T8))
            refine wp_region_mix (fun y => ∃ s, y = off (B + 3) (B + 6) T8 s) [(0, [0, 1, 2]), (1, [3]), (1, [4]), (1, [5])] (by kernel_rfl) (by kernel_rfl) (off_of F0) ?_
            simp only [pieces, pickL, List.map_cons, List.map_nil, List.getD_cons_zero, List.getD_cons_succ]
            refine mix_reads ?_
            repeat (go_big_quiet_step (fail))
            refine wpQuiet_nil (mix_acts ?_)
            obtain ⟨e0, e1, e2, e3, e4, ez, el⟩ := fiv_of HKE.out.r3
            have g0 : T8.drew.cell? ⟨B + 4, 0, none⟩ = some (.slice none 0 0) := cell_at HKE.out.r4 rfl
            have g1 : T8.drew.cell? ⟨B + 4, 1, none⟩ = some (.slice none 0 0) := cell_at HKE.out.r4 rfl
            have g2 : T8.drew.cell? ⟨B + 4, 2, none⟩ = some (.int .i64 0) := cell_at HKE.out.r4 rfl
            have gz := fun o => free_at (o := o) HKE.out.r4
            have gl := heap_lt HKE.out.r4
            have j0 : T8.drew.cell? ⟨B + 5, 0, none⟩ = some (.int .i64 0) := cell_at HKE.out.r5 rfl
            have j1 : T8.drew.cell? ⟨B + 5, 1, none⟩ = some (.slice none 0 0) := cell_at HKE.out.r5 rfl
            have jz := fun o => free_at (o := o) HKE.out.r5
            have jl := heap_lt HKE.out.r5
            have hRE := Lib.hid (HR.out.ext (ext_drew (ext_refl T8)))
            have hUE := Lib.hid (HU.out.fr (.of_ext (ext_drew (ext_refl T8))))
            generalize T8.drew = Td at *
            have F1 := ((((F0.set (p := ⟨B + 3, 0, none⟩) (.int .i64 (S.n : Int)) (by simp) (by simp)).set (p := ⟨B + 3, 1, none⟩) (.slice ba S.q.length bc) (by simp) (by simp)).set (p := ⟨B + 3, 2, none⟩) (.bool true) (by simp) (by simp)).set (p := ⟨B + 3, 3, none⟩) (.slice va (l2.length + 1) (lc - 1)) (by simp) (by simp)).set (p := ⟨B + 3, 4, none⟩) (.slice wa n3 wc) (by simp) (by simp)
            have F2 := ((F1.set (p := ⟨B + 4, 0, none⟩) (.slice R2.wa M2.n R2.wc) (by simp) (by simp)).set (p := ⟨B + 4, 1, none⟩) (.slice R2.ea M2.n R2.ec) (by simp) (by simp)).set (p := ⟨B + 4, 2, none⟩) (.int .i64 M2.ct) (by simp) (by simp)
            have F3 := (F2.set (p := ⟨B + 5, 0, none⟩) (.int .i64 (1 : Int)) (by simp) (by simp)).set (p := ⟨B + 5, 1, none⟩) (.slice none 0 0) (by simp) (by simp)
            have FF := Lib.hid (And.intro F1 (And.intro F2 F3))
            clear F1 F2 F3 F0
            skip
            go_wp2
            refine mixQ_mk (off_of FF.out.1) (mix_acts ?_)
            go_wp2
            refine mixQ_mk (off_of FF.out.2.1) (mix_acts ?_)
            go_wp2
            refine mixQ_mk (off_of FF.out.2.2) (mix_end ?_)
            go_wp2
            have hend := HKE.out.ends hRE.out x 1 [] none 0 (by rw [← HX.out, HE.out]) hUE.out
            unfold putE wV at hend
            simp only [HBU.out] at hend
            exact bodyPost_ret (v := .tuple #[.agg #[.int .i64 (S.n : Int), .slice ba S.q.length bc, .bool true, .slice va (l2.length + 1) (lc - 1), .slice wa n3 wc], refV R2 M2, .agg #[.int .i64 1, .slice none 0 0]]) (by simp only [results, Try.results19, go_sem]; simp [go_sem, e0, e1, e2, e3, e4, g0, g1, g2, j0, j1, refV]) rfl hend
end
end Go.Proofs.Ythepcnffadjeaaa
