/-
  An append whose source may be nil; what the call of slices.Concat of two lists without words comes to, and of Join of two programs that are over. Conditions: those of each theorem.
-/
import Derived.Test.YtmianpfomoghjaaProgJoinF
namespace Go.Proofs.Ytmianpfomoghjaa
open Go Go.RowKit

theorem append_none {P : Program} (w : World) {base : Nat} {t e : TypeId} (ty : TypeId) {i : TypeInfo} {size : Nat} (ht : P.underlying t = some (.slice e)) (hi : P.info? e = some i) {v : Value} {n : Nat} {xs : List Value} (hown : w.ownsRow base e size v n xs) (c : Nat) :
    (Builtin.append_ #[t, t] ty #[v, .slice none 0 c]).run P w = .ok v w := by
  rcases hown.2 with ⟨rfl, rfl⟩ | ⟨g, cap, cur, rfl, _, _, hnc, _⟩
  · simp [Builtin.append_, run_underlying ht, sizeOf, typeInfo, hi, Builtin.lenOf, Builtin.firstCells]
  · simp [Builtin.append_, run_underlying ht, sizeOf, typeInfo, hi, Builtin.lenOf, Builtin.firstCells, hnc, storeCells]
theorem wpList_append_opt {P : Program} {w : World} {ops : Array Oper} {rest : List Oper} {o : Oper} {a : Act} {Q : Exit → Act → World → Prop} (hgd : o.guard = none) (s x : Operand) (t : TypeId)
    (ho : o.op = .call { callee := .builtin .append, args := #[s, x], argTypes := #[t, t] }) (base : Nat) (e : TypeId) (i : TypeInfo) (z : Value) (size bytes : Nat) (ht : P.underlying t = some (.slice e)) (hi : P.info? e = some i) (hz : i.zero = some z) (hsize : i.size = size) (hby : i.bytes = bytes) (hzs : z.cells.size = size) (hsz : 0 < size)
    (v : Value) (n : Nat) (xs : List Value) (hs : a.eval s = v) (hown : w.ownsRow base e size v n xs) (A : Option Addr) (m c : Nat) (news : List Value) (hx : a.eval x = .slice A m c) (hA : A = none → m = 0) (hl : news.length = m * size)
    (hnews : ∀ ad, A = some ad → ∀ j u, news[j]? = some u → w.cell? (ad.add j) = some u) (h1 : ∀ u ∈ news, u.oneCell' = true) (h63 : n + m ≤ maxLen) (hbytes : (n + m) * bytes ≤ 140737488355328) (hbase : base ≤ w.heap.size)
    (h : ∀ v' w', w'.ownsRow base e size v' (n + m) (xs ++ news) → w.grownBy w' v.ownBlock → wpList P ops Q rest (a.put o.dst v') w') : wpList P ops Q (o :: rest) a w := by
  cases A with
  | some ad => exact wpList_append_own w hgd s x t ho base e i z size bytes ht hi hz hsize hby hzs hsz v n xs hs hown ad m c news hx hl (hnews ad rfl) h1 h63 hbytes hbase fun v' w' h2 h3 _ => h v' w' h2 h3
  | none =>
    obtain rfl := hA rfl
    have hn : news = [] := List.eq_nil_of_length_eq_zero (by simpa using hl)
    subst hn
    refine wpList_plain hgd fun K hK => ?_
    have hrun := append_none w o.type ht hi hown c
    unfold Oper.wp
    simp only [execOp, ho, resolve, invoke, builtin, Sem.run_bind, Sem.run_pure, Result.andThen_ok, List.map_toArray, List.map_cons, List.map_nil, hs, hx, hrun]
    exact hK _ _ (h v w (by rw [Nat.add_zero, List.append_nil]; exact hown) ⟨rfl, rfl, rfl, Nat.le_refl _, fun _ _ _ => rfl⟩)

set_option maxRecDepth 8000 in
set_option maxHeartbeats 1000000 in
theorem grow0 (w : World) : Calls Try.prog 63 #[.slice none 0 0, .int .i64 0] w (Ret (.slice none 0 0) w) := by
  go_enter Try.func63, Try.ntmps63
  go_wp2
  go_ret
  exact Ret.mk (ext_refl _)

set_option maxRecDepth 8000 in
set_option maxHeartbeats 2000000 in
theorem concat0 (B : Nat) (ra rb : Option Addr) (rc rd : Nat) (w : World) (k0 : w.cell? ⟨B, 0, none⟩ = some (.slice ra 0 rc)) (k1 : w.cell? ⟨B, 1, none⟩ = some (.slice rb 0 rd)) :
    Calls Try.prog 40 #[.slice (some ⟨B, 0, none⟩) 2 2] w fun e w' => ∃ v, e = .returned v ∧ UsB (· < w.heap.size) w' v [] ∧ Ext w w' := by
  have lb := cell_lt k0
  obtain ⟨iU, hiU, hy0, hy1, hy2⟩ := info_parts Try.infoU64t
  go_enter Try.func40, Try.ntmps40
  go_wp2
  refine wp_loop_rounds 3 ?_
  rw [rounds_succ]
  go_wp2
  rw [rounds_succ]
  go_wp2
  rw [rounds_succ]
  go_wp2_with (go_at_call 63; refine (grow0 _).mono ?_; rintro e w' hr'; obtain ⟨rfl, s, rfl⟩ := hr'.over; clear hr')
  refine wp_loop_rounds 3 ?_
  rw [rounds_succ]
  go_wp2_with (at_builtin; refine Hid.out ?_)
  refine Lib.hid ?_
  refine wpList_append_opt rfl (.tmp 31) (.tmp 32) 30 rfl w.heap.size 35 iU (.int .u64 0) 1 8 Try.underlying30 hiU hy0 hy1 hy2 rfl (by decide) (.slice none 0 0) 0 [] rfl (World.ownsRow_nil _ _ _ _) ra 0 rc [] rfl (fun _ => rfl) rfl (fun _ _ j u h => by cases h) (by simp) (by decide) (by decide) (over_size w s) ?_
  intro v1 w1 hv1 hg1
  have hX1 : Ext w w1 := ext_grown00 (over_below w s) hg1
  obtain ⟨A1, C1, rfl⟩ : ∃ A1 C1, v1 = .slice A1 0 C1 := by
    rcases hv1.2 with ⟨rfl, _⟩ | ⟨g, cap, _, rfl, _⟩
    · exact ⟨_, _, rfl⟩
    · exact ⟨_, _, rfl⟩
  have m0 := ext_cell hX1 k0
  have m1 := ext_cell hX1 k1
  have lm := cell_lt m0
  have HV1 := Lib.hid hv1
  have HX1 := Lib.hid hX1
  clear hv1 hg1 hX1 k0 k1
  go_wp2
  rw [rounds_succ]
  go_wp2_with (at_builtin; refine Hid.out ?_)
  refine Lib.hid ?_
  refine wpList_append_opt rfl (.tmp 31) (.tmp 32) 30 rfl w.heap.size 35 iU (.int .u64 0) 1 8 Try.underlying30 hiU hy0 hy1 hy2 rfl (by decide) (.slice A1 0 C1) 0 [] rfl HV1.out rb 0 rd [] rfl (fun _ => rfl) rfl (fun _ _ j u h => by cases h) (by simp) (by decide) (by decide) HX1.out.size ?_
  intro v2 w2 hv2 hg2
  have hX2 : Ext w w2 := HX1.out.grown hg2 HX1.out.size fun k hk => (HV1.out.lt k hk).1
  obtain ⟨A2, C2, rfl⟩ : ∃ A2 C2, v2 = .slice A2 0 C2 := by
    rcases hv2.2 with ⟨rfl, _⟩ | ⟨g, cap, _, rfl, _⟩
    · exact ⟨_, _, rfl⟩
    · exact ⟨_, _, rfl⟩
  have HX2 := Lib.hid hX2
  clear hv2 hg2 hX2 m0 m1
  go_wp2
  rw [rounds_succ]
  go_wp2
  go_ret
  exact ⟨_, rfl, ⟨A2, C2, rfl, Nat.zero_le _, fun h => absurd h (Nat.not_lt_zero _)⟩, HX2.out⟩

set_option maxRecDepth 8000 in
set_option maxHeartbeats 2000000 in
theorem join_c (D : Nat → Prop) (pv qv : Value) (w : World) (hP : PL D [] [] pv w) (hQ : PL D [] [] qv w) :
    Calls Try.prog 20 #[pv, qv] w (RetPH D [] [] w) := by
  obtain ⟨rv, e1, hrv⟩ := id hP
  obtain ⟨ra, rc, rfl, _⟩ := hrv
  subst e1
  obtain ⟨rv, e1, hrv⟩ := id hQ
  obtain ⟨rb, rd, rfl, _⟩ := hrv
  subst e1
  have HP : Hid (PL D [] [] (pV (.slice ra 0 rc) accZ .nilFunc (.pointer none)) w) := Lib.hid hP
  have HQ : Hid (PL D [] [] (pV (.slice rb 0 rd) accZ .nilFunc (.pointer none)) w) := Lib.hid hQ
  clear hP hQ
  simp only [List.length_nil]
  unfold pV
  go_enter Try.func20, Try.ntmps20
  go_wp2_with (go_at_call 21; refine Hid.out ?_)
  refine Lib.hid ?_
  have hE0 : Ext w (((w.alloc (.cells #[.slice ra 0 rc, .int .i64 accZ.op, .int .i64 accZ.at_, .int .u64 (U accZ.a), .int .u64 (U accZ.b), .nilFunc, .pointer none] 46)).alloc (.cells #[.slice rb 0 rd, .int .i64 accZ.op, .int .i64 accZ.at_, .int .u64 (U accZ.a), .int .u64 (U accZ.b), .nilFunc, .pointer none] 46)).alloc (.cells #[.slice none 0 0, .int .i64 0, .int .i64 0, .int .u64 0, .int .u64 0, .nilFunc, .pointer none] 46)) := ext_alloc _ (ext_alloc _ (ext_alloc _ (ext_refl w)))
  have hb1 : (((w.alloc (.cells #[.slice ra 0 rc, .int .i64 accZ.op, .int .i64 accZ.at_, .int .u64 (U accZ.a), .int .u64 (U accZ.b), .nilFunc, .pointer none] 46)).alloc (.cells #[.slice rb 0 rd, .int .i64 accZ.op, .int .i64 accZ.at_, .int .u64 (U accZ.a), .int .u64 (U accZ.b), .nilFunc, .pointer none] 46)).alloc (.cells #[.slice none 0 0, .int .i64 0, .int .i64 0, .int .u64 0, .int .u64 0, .nilFunc, .pointer none] 46)).heap[w.heap.size]? = some (.cells #[.slice ra 0 rc, .int .i64 accZ.op, .int .i64 accZ.at_, .int .u64 (U accZ.a), .int .u64 (U accZ.b), .nilFunc, .pointer none] 46) := (Below.heap_alloc _ _ _ (by simp; omega)).trans ((Below.heap_alloc _ _ _ (by simp)).trans (heap_at w _ _ rfl))
  have hb2 : (((w.alloc (.cells #[.slice ra 0 rc, .int .i64 accZ.op, .int .i64 accZ.at_, .int .u64 (U accZ.a), .int .u64 (U accZ.b), .nilFunc, .pointer none] 46)).alloc (.cells #[.slice rb 0 rd, .int .i64 accZ.op, .int .i64 accZ.at_, .int .u64 (U accZ.a), .int .u64 (U accZ.b), .nilFunc, .pointer none] 46)).alloc (.cells #[.slice none 0 0, .int .i64 0, .int .i64 0, .int .u64 0, .int .u64 0, .nilFunc, .pointer none] 46)).heap[w.heap.size + 1]? = some (.cells #[.slice rb 0 rd, .int .i64 accZ.op, .int .i64 accZ.at_, .int .u64 (U accZ.a), .int .u64 (U accZ.b), .nilFunc, .pointer none] 46) := (Below.heap_alloc _ _ _ (by simp)).trans (heap_at _ _ _ (by simp))
  have hb3 : (((w.alloc (.cells #[.slice ra 0 rc, .int .i64 accZ.op, .int .i64 accZ.at_, .int .u64 (U accZ.a), .int .u64 (U accZ.b), .nilFunc, .pointer none] 46)).alloc (.cells #[.slice rb 0 rd, .int .i64 accZ.op, .int .i64 accZ.at_, .int .u64 (U accZ.a), .int .u64 (U accZ.b), .nilFunc, .pointer none] 46)).alloc (.cells #[.slice none 0 0, .int .i64 0, .int .i64 0, .int .u64 0, .int .u64 0, .nilFunc, .pointer none] 46)).heap[w.heap.size + 1 + 1]? = some (.cells #[.slice none 0 0, .int .i64 0, .int .i64 0, .int .u64 0, .int .u64 0, .nilFunc, .pointer none] 46) := heap_at _ _ _ (by simp)
  generalize (((w.alloc (.cells #[.slice ra 0 rc, .int .i64 accZ.op, .int .i64 accZ.at_, .int .u64 (U accZ.a), .int .u64 (U accZ.b), .nilFunc, .pointer none] 46)).alloc (.cells #[.slice rb 0 rd, .int .i64 accZ.op, .int .i64 accZ.at_, .int .u64 (U accZ.a), .int .u64 (U accZ.b), .nilFunc, .pointer none] 46)).alloc (.cells #[.slice none 0 0, .int .i64 0, .int .i64 0, .int .u64 0, .int .u64 0, .nilFunc, .pointer none] 46)) = V0 at hE0 hb1 hb2 hb3 ⊢
  refine (access_no D [] _ V0 (HP.out.ext hE0).h).mono ?_
  rintro e w1 ⟨rfl, hx⟩
  have hE1 := ext_trans hE0 hx
  replace hb1 := (hx.block _ (heap_lt hb1)).trans hb1
  replace hb2 := (hx.block _ (heap_lt hb2)).trans hb2
  replace hb3 := (hx.block _ (heap_lt hb3)).trans hb3
  obtain ⟨q0, q1, q2, q3, q4, q5, q6, qz, ql⟩ := sev_of hb2
  have HB := Lib.hid (And.intro hE1 (And.intro hb1 (And.intro hb2 hb3)))
  clear hx hE0 hE1 hb1 hb2 hb3
  unfold accV
  go_wp2_with (go_at_call 21; refine Hid.out ?_)
  refine Lib.hid ?_
  obtain ⟨hE1, hb1, hb2, hb3⟩ := HB.out
  have hXa := ext_alloc (.cells #[.int .i64 accZ.op, .int .i64 accZ.at_, .int .u64 (U accZ.a), .int .u64 (U accZ.b)] 42) (ext_refl w1)
  have hba := heap_at w1 (.cells #[.int .i64 accZ.op, .int .i64 accZ.at_, .int .u64 (U accZ.a), .int .u64 (U accZ.b)] 42) w1.heap.size rfl
  generalize w1.alloc (.cells #[.int .i64 accZ.op, .int .i64 accZ.at_, .int .u64 (U accZ.a), .int .u64 (U accZ.b)] 42) = V2 at hXa hba ⊢
  refine (access_no D [] _ V2 (HQ.out.ext (ext_trans hE1 hXa)).h).mono ?_
  rintro e w2 ⟨rfl, hx⟩
  have hE2 := ext_trans (ext_trans hE1 hXa) hx
  have hEx := ext_trans hXa hx
  replace hba := (hx.block _ (heap_lt hba)).trans hba
  replace hb1 := (hEx.block _ (heap_lt hb1)).trans hb1
  replace hb2 := (hEx.block _ (heap_lt hb2)).trans hb2
  replace hb3 := (hEx.block _ (heap_lt hb3)).trans hb3
  clear q0 q1 q2 q3 q4 q5 q6 qz HB
  obtain ⟨p0, p1, p2, p3, p4, p5, p6, pz, pl⟩ := sev_of hb1
  obtain ⟨q0, q1, q2, q3, q4, q5, q6, qz, ql⟩ := sev_of hb2
  have a0 := cell_at (o := 0) hba rfl
  have a1 := cell_at (o := 1) hba rfl
  have a2 := cell_at (o := 2) hba rfl
  have a3 := cell_at (o := 3) hba rfl
  have az : ∀ o, w2.frozen? ⟨w1.heap.size, o, none⟩ = false := fun o => free_at hba
  have la := heap_lt hba
  have hw1 := hE1.size
  have hne : w.heap.size + 1 + 1 ≠ w1.heap.size := fun e => by rw [e, hba] at hb3; simp at hb3
  have hne1 : w.heap.size ≠ w1.heap.size := fun e => by rw [e, hba] at hb1; simp at hb1
  have hne2 : w.heap.size + 1 ≠ w1.heap.size := fun e => by rw [e, hba] at hb2; simp at hb2
  have HE2 := Lib.hid hE2
  have HB3 := Lib.hid hb3
  clear hE1 hE2 hEx hXa hb1 hb2 hb3 hba hx
  unfold accV
  go_wp2_with (go_at_call 40; refine Hid.out ?_)
  refine Lib.hid ?_
  have hX4 : Ext w ((((w2.setCell ⟨w1.heap.size, 0, none⟩ (.int .i64 accZ.op)).setCell ⟨w1.heap.size, 1, none⟩ (.int .i64 accZ.at_)).setCell ⟨w1.heap.size, 2, none⟩ (.int .u64 (U accZ.a))).setCell ⟨w1.heap.size, 3, none⟩ (.int .u64 (U accZ.b))) := ext_set _ hw1 (ext_set _ hw1 (ext_set _ hw1 (ext_set _ hw1 HE2.out)))
  have hb4 : ((((w2.setCell ⟨w1.heap.size, 0, none⟩ (.int .i64 accZ.op)).setCell ⟨w1.heap.size, 1, none⟩ (.int .i64 accZ.at_)).setCell ⟨w1.heap.size, 2, none⟩ (.int .u64 (U accZ.a))).setCell ⟨w1.heap.size, 3, none⟩ (.int .u64 (U accZ.b))).heap[w.heap.size + 1 + 1]? = some (.cells #[.slice none 0 0, .int .i64 0, .int .i64 0, .int .u64 0, .int .u64 0, .nilFunc, .pointer none] 46) := by rw [set_other _ hne, set_other _ hne, set_other _ hne, set_other _ hne]; exact HB3.out
  have hs4 : ((((w2.setCell ⟨w1.heap.size, 0, none⟩ (.int .i64 accZ.op)).setCell ⟨w1.heap.size, 1, none⟩ (.int .i64 accZ.at_)).setCell ⟨w1.heap.size, 2, none⟩ (.int .u64 (U accZ.a))).setCell ⟨w1.heap.size, 3, none⟩ (.int .u64 (U accZ.b))).heap.size = w2.heap.size := by rw [set_size, set_size, set_size, set_size]
  generalize ((((w2.setCell ⟨w1.heap.size, 0, none⟩ (.int .i64 accZ.op)).setCell ⟨w1.heap.size, 1, none⟩ (.int .i64 accZ.at_)).setCell ⟨w1.heap.size, 2, none⟩ (.int .u64 (U accZ.a))).setCell ⟨w1.heap.size, 3, none⟩ (.int .u64 (U accZ.b))) = Y4 at hX4 hb4 hs4 ⊢
  have h5 := heap_at Y4 (.cells #[.slice ra 0 rc, .slice rb 0 rd] 30) w2.heap.size hs4.symm
  have hX5 := ext_alloc (.cells #[.slice ra 0 rc, .slice rb 0 rd] 30) (ext_refl Y4)
  generalize Y4.alloc (.cells #[.slice ra 0 rc, .slice rb 0 rd] 30) = Y5 at h5 hX5 ⊢
  refine (concat0 w2.heap.size ra rb rc rd Y5 (cell_at h5 rfl) (cell_at h5 rfl)).mono ?_
  rintro e w3 ⟨v3, rfl, hu, hx⟩
  obtain ⟨A3, C3, rfl, _⟩ := id hu
  have hE3 := ext_trans hX5 hx
  have hb5 := (hE3.block _ (heap_lt hb4)).trans hb4
  clear p0 p1 p2 p3 p4 p5 p6 pz q0 q1 q2 q3 q4 q5 q6 qz a0 a1 a2 a3 az la
  obtain ⟨c0, c1, c2, c3, c4, c5, c6, cz, ll⟩ := sev_of hb5
  have hX := put7_ext (b := w.heap.size + 1 + 1) (.slice A3 0 C3) (.int .i64 0) (.int .i64 0) (.int .u64 0) (.int .u64 0) .nilFunc (.pointer none) (ext_trans hX4 hE3) (by omega)
  have hBk := put7_block (.slice A3 0 C3) (.int .i64 0) (.int .i64 0) (.int .u64 0) (.int .u64 0) .nilFunc (.pointer none) hb5
  rw [put7] at hX hBk
  have HZ := Lib.hid (And.intro hX hBk)
  clear hX hBk hX4 hb4 hs4 h5 hX5 hx hu hE3 hb5
  simp only [List.length_nil]
  go_wp2
  clear c0 c1 c2 c3 c4 c5 c6 cz
  obtain ⟨hX1, hB1⟩ := HZ.out
  clear HZ
  generalize (World.setCell _ (⟨w.heap.size + 1 + 1, 6, none⟩ : Addr) _) = Y at hX1 hB1 ⊢
  obtain ⟨c0, c1, c2, c3, c4, c5, c6, cz, lc⟩ := sev_of hB1
  exact bodyPost_ret (v := .agg #[.slice A3 0 C3, .int .i64 0, .int .i64 0, .int .u64 0, .int .u64 0, .nilFunc, .pointer none]) (by simp only [results, Try.results20, go_sem]; simp [go_sem, c0, c1, c2, c3, c4, c5, c6]) rfl ⟨_, rfl, hX1, .slice A3 0 C3, none, by unfold pV accZ; rw [U_0], ⟨A3, C3, rfl, Nat.zero_le _, fun h => absurd h (Nat.not_lt_zero _)⟩⟩

/-- Join, whatever the two lists. -/
theorem join_any (D : Nat → Prop) (l k : List Acc) (pv qv : Value) (w : World) (hP : PL D l [] pv w) (hQ : PL D k [] qv w) (hl : l.length + k.length ≤ 900) (hb : ∀ k, D k → k < w.heap.size) :
    Calls Try.prog 20 #[pv, qv] w (RetPH D (l ++ k) [] w) := by
  cases l with
  | cons a l => exact join_a D a l k pv qv w hP hQ (by simp at hl; omega) hb
  | nil =>
    cases k with
    | cons a k => exact join_b D a k pv qv w hP hQ (by simp at hl; omega) hb
    | nil => exact join_c D pv qv w hP hQ

end Go.Proofs.Ytmianpfomoghjaa
