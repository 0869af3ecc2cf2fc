/-
  What the call of wipe comes to. Conditions: those of each theorem.
-/
import Derived.Test.YtpidmbclgfnekaaGreatGaw
namespace Go.Proofs.YtpidmbclgfnekaaGreat
open Go Go.RowKit

theorem shL {l : List Acc} {t : List (BitVec 64)} {F : Nat → Prop} {v : Value} {w : World} (h : PA l t F v w) : ∃ (sa : Option Addr) (n c : Nat) (a : Acc) (fn : Value), v = .agg #[.slice sa n c, .int .i64 a.op, .int .i64 a.at_, .int .u64 (U a.a), .int .u64 (U a.b), fn, .pointer none] ∧ (fn = .nilFunc ∨ ∃ g caps, fn = .func (.func g) #[] caps) := by
  obtain ⟨sa, n, c, a, fn, rfl, hfn⟩ := h.shape
  exact ⟨sa, n, c, a, fn, rfl, hfn⟩
/-! A row of accesses that a call makes. -/
def AL (W : World) (l : List Acc) (v : Value) (w : World) : Prop := w.ownsRow W.heap.size 42 4 v l.length (l.flatMap A4) ∧ Ext W w
theorem AL.nil (W : World) : AL W [] (.slice none 0 0) W := ⟨⟨rfl, .inl ⟨rfl, rfl⟩⟩, ext_refl W⟩
theorem a4_st (at_ : Int) : A4 (stA at_ 0#64) = [.int .i64 1, .int .i64 at_, .int .u64 0, .int .u64 0] := by simp [A4, stA, U_0]
theorem own_extA {w w' : World} {base : Nat} {e : TypeId} {size : Nat} {v : Value} {n : Nat} {xs : List Value} (h : w.ownsRow base e size v n xs) (hb : Ext w w') : w'.ownsRow base e size v n xs := by
  obtain ⟨h1, h2⟩ := h
  refine ⟨h1, ?_⟩
  rcases h2 with h2 | ⟨g, cap, cur, hv, hg, hh, r⟩
  · exact .inl h2
  · exact .inr ⟨g, cap, cur, hv, hg, by rw [hb.block g (hp_lt hh)]; exact hh, r⟩
theorem wpList_acc {W u w : World} {ops : Array Oper} {rest : List Oper} {o : Oper} {a : Act} {Q : Exit → Act → World → Prop} (hgd : o.guard = none) (s y : Operand)
    (ho : o.op = .call { callee := .builtin .append, args := #[s, y], argTypes := #[237, 237] }) (v : Value) (l : List Acc) (at_ : Int) (hs : a.eval s = v) (hv : AL W l v u)
    (hw : w = u.alloc (.cells #[.int .i64 1, .int .i64 at_, .int .u64 0, .int .u64 0] 42)) (hy : a.eval y = .slice (some ⟨u.heap.size, 0, none⟩) 1 1) (hm : l.length ≤ 1000)
    (h : ∀ v' w', AL W (l ++ [stA at_ 0#64]) v' w' → wpList Tryz.prog ops Q rest (a.put o.dst v') w') : wpList Tryz.prog ops Q (o :: rest) a w := by
  subst hw
  obtain ⟨h1, h2⟩ := hv
  obtain ⟨iW, hi, hz0, hz1, hz2⟩ := info_parts Tryz.infoAcc
  have hb := heap_at u (.cells #[.int .i64 1, .int .i64 at_, .int .u64 0, .int .u64 0] 42) u.heap.size rfl
  have hE : Ext W (u.alloc (.cells #[.int .i64 1, .int .i64 at_, .int .u64 0, .int .u64 0] 42)) := ext_alloc _ h2
  have hO := own_extA h1 (ext_alloc (.cells #[.int .i64 1, .int .i64 at_, .int .u64 0, .int .u64 0] 42) (ext_refl u))
  have hnews : ∀ j x, ([.int .i64 1, .int .i64 at_, .int .u64 0, .int .u64 0] : List Value)[j]? = some x → (u.alloc (.cells #[.int .i64 1, .int .i64 at_, .int .u64 0, .int .u64 0] 42)).cell? ((⟨u.heap.size, 0, none⟩ : Addr).add j) = some x := by
    intro j x hj
    rw [add_at', Nat.zero_add]
    refine cell_at hb ?_
    rw [← hj]
    exact (Array.getElem?_toList).symm
  have hones : ∀ x ∈ ([.int .i64 1, .int .i64 at_, .int .u64 0, .int .u64 0] : List Value), x.oneCell' = true := by
    intro x hx
    simp at hx
    rcases hx with rfl | rfl | rfl <;> rfl
  refine wpList_append_own _ hgd s y 237 ho W.heap.size 42 iW _ 4 32 Tryz.underlying237 hi hz0 hz1 hz2 rfl (by decide) v l.length (l.flatMap A4) hs hO ⟨u.heap.size, 0, none⟩ 1 1 _ hy rfl hnews hones (by unfold maxLen; omega) (by omega) (by have := hE.size; omega) ?_
  intro v' w' hv' hg' _
  refine h v' w' ⟨?_, ext_own hE hO hg'⟩
  rw [List.flatMap_append, List.flatMap_cons, List.flatMap_nil, List.append_nil, a4_st, List.length_append]
  exact hv'
def WpRel (W : World) (L : List Int) (v i : Value) (wr : World) : Prop := ∃ k : Nat, k ≤ L.length ∧ i = .int .i64 (k : Int) ∧ AL W ((L.take k).map fun at_ => stA at_ 0#64) v wr
theorem wipe_take (L : List Int) (k : Nat) (h : k < L.length) : (L.take (k + 1)).map (fun at_ => stA at_ 0#64) = (L.take k).map (fun at_ => stA at_ 0#64) ++ [stA (iN L k) 0#64] := by
  rw [List.take_add_one, List.map_append, List.getElem?_eq_getElem h]
  simp [iN, List.getD_eq_getElem?_getD, h]
theorem wds_len (p : Pl) (n : Int) : (p.wdsF n).length ≤ 3 := by
  unfold Pl.wdsF
  split <;> simp
set_option maxRecDepth 8000 in
set_option maxHeartbeats 2000000 in
theorem wipe_PA (p : Pl) (n : Int) (w : World) : Calls Tryz.prog 188 #[plV p, .int .i64 n] w (RetP (PA (wipeL p n) []) noF w) := by
  have hL := wds_len p n
  obtain ⟨L, eL⟩ : ∃ L, Hid (p.wdsF n = L) := ⟨_, Lib.hid rfl⟩
  unfold wipeL
  rw [eL.out] at hL ⊢
  go_enter Tryz.func188, Tryz.ntmps188
  go_wp2_with (go_at_call 196; refine Hid.out ?_)
  refine Lib.hid ?_
  have hE : Ext w ((w.alloc (.cells #[.int .i64 p.n, .int .i64 p.t, .int .i64 p.r, .int .i64 p.d, .int .i64 p.b, .int .i64 p.g] 23)).alloc (.cells #[.slice none 0 0, .int .i64 0, .int .i64 0, .int .u64 0, .int .u64 0, .nilFunc, .pointer none] 230)) := by repeat (first | exact ext_refl _ | apply ext_alloc)
  have hb0 : ((w.alloc (.cells #[.int .i64 p.n, .int .i64 p.t, .int .i64 p.r, .int .i64 p.d, .int .i64 p.b, .int .i64 p.g] 23)).alloc (.cells #[.slice none 0 0, .int .i64 0, .int .i64 0, .int .u64 0, .int .u64 0, .nilFunc, .pointer none] 230)).heap[w.heap.size]? = some (.cells #[.int .i64 p.n, .int .i64 p.t, .int .i64 p.r, .int .i64 p.d, .int .i64 p.b, .int .i64 p.g] 23) := (Below.heap_alloc _ _ _ (by simp <;> omega)).trans (heap_at _ _ _ (by simp))
  have hb1 : ((w.alloc (.cells #[.int .i64 p.n, .int .i64 p.t, .int .i64 p.r, .int .i64 p.d, .int .i64 p.b, .int .i64 p.g] 23)).alloc (.cells #[.slice none 0 0, .int .i64 0, .int .i64 0, .int .u64 0, .int .u64 0, .nilFunc, .pointer none] 230)).heap[w.heap.size + 1]? = some (.cells #[.slice none 0 0, .int .i64 0, .int .i64 0, .int .u64 0, .int .u64 0, .nilFunc, .pointer none] 230) := heap_at _ _ _ (by simp)
  have hW : ((w.alloc (.cells #[.int .i64 p.n, .int .i64 p.t, .int .i64 p.r, .int .i64 p.d, .int .i64 p.b, .int .i64 p.g] 23)).alloc (.cells #[.slice none 0 0, .int .i64 0, .int .i64 0, .int .u64 0, .int .u64 0, .nilFunc, .pointer none] 230)).heap.size = w.heap.size + 1 + 1 := by simp
  generalize ((w.alloc (.cells #[.int .i64 p.n, .int .i64 p.t, .int .i64 p.r, .int .i64 p.d, .int .i64 p.b, .int .i64 p.g] 23)).alloc (.cells #[.slice none 0 0, .int .i64 0, .int .i64 0, .int .u64 0, .int .u64 0, .nilFunc, .pointer none] 230)) = W at hE hb0 hb1 hW ⊢
  refine (wds_any p n W).mono ?_
  rintro e w1 ⟨v0, rfl, hx, hI⟩
  replace hE := ext_trans hE hx
  replace hb1 := (hx.block _ (heap_lt hb1)).trans hb1
  clear hx hb0 hW
  rw [eL.out] at hI
  have HI := Lib.hid hI
  obtain ⟨a0, cap, rfl, hc, hcell⟩ := hI
  clear hcell
  have HE := Lib.hid hE
  have HB := Lib.hid hb1
  clear hE hb1
  go_wp2
  go_loopw [5, 12] (fun v i wr => WpRel w1 L v i wr) (fun _ i _ => (L.length - intOf i).toNat)
  case atStart => exact ⟨0, Nat.zero_le _, rfl, AL.nil w1⟩
  case round =>
    obtain ⟨k, hk, rfl, hv⟩ := hrel
    have HV := Lib.hid hv
    have hlA : ((L.take k).map fun at_ => stA at_ 0#64).length ≤ 1000 := by simp; omega
    obtain ⟨va, vc, hvs⟩ : ∃ va vc, u5 = .slice va ((L.take k).map fun at_ => stA at_ 0#64).length vc := by
      rcases hv.1.2 with ⟨rfl, h2⟩ | ⟨g, cap', cur, rfl, _⟩
      · exact ⟨none, 0, by rw [h2]⟩
      · exact ⟨_, _, rfl⟩
    clear hv
    by_cases hlt : k < L.length
    · obtain ⟨b, off, rfl, hb, hcells⟩ := (HI.out.ext HV.out.2).at (by omega)
      have c1 := hcells k hlt
      have bl := cell_lt c1
      clear hcells
      have hlt' : (k : Int) < L.length := by omega
      have HT := Lib.hid (wipe_take L k hlt)
      have HVS := Lib.hid hvs
      clear hvs
      go_wp2_with (at_builtin; refine wpList_acc (W := w1) rfl (.tmp 16) (.tmp 19) rfl _ ((L.take k).map fun at_ => stA at_ 0#64) (iN L k) rfl HV.out rfl rfl hlA ?_; intro v3 w3 hv3; rw [← HT.out] at hv3; have HV3 := Lib.hid hv3; clear hv3)
      exact ⟨⟨k + 1, by omega, by go_num, HV3.out⟩, by simp [intOf]; omega⟩
    · obtain rfl : k = L.length := by omega
      rw [List.take_length] at HV hvs
      rw [List.length_map] at hvs
      subst hvs
      go_wp2_with (go_at_call 197; refine Hid.out ?_)
      refine Lib.hid ?_
      have hb1 := (HV.out.2.block _ (heap_lt HB.out)).trans HB.out
      have hE := ext_trans HE.out HV.out.2
      have hAs : AsB (fun _ => False) wr _ _ := asB_of_own HV.out.1 (fun _ h => h.elim)
      refine (listP_any _ _ wr hAs (by simp; omega)).mono ?_
      rintro e w' hR
      obtain ⟨v', F', rfl, hX, hp, hbn, hsub, hnF, hbq⟩ := hR.tail (G := noF) (w.heap.size + 1) hE (heap_lt hb1) (fun h => h) (fun _ h => h.elim)
      have hbx := hbq.trans hb1
      clear hbq hR
      clear hE hb1 hAs HV HI HE HB
      obtain ⟨sa, sn, sc, a2, fn2, rfl, hfn⟩ := shL hp
      have hXX := put7_ext (b := w.heap.size + 1) (.slice sa sn sc) (.int .i64 a2.op) (.int .i64 a2.at_) (.int .u64 (U a2.a)) (.int .u64 (U a2.b)) (fn2) (.pointer none) hX (by omega)
      have hB := put7_block (.slice sa sn sc) (.int .i64 a2.op) (.int .i64 a2.at_) (.int .u64 (U a2.a)) (.int .u64 (U a2.b)) (fn2) (.pointer none) hbx
      have hP := hp.agr (Agr.of_put7 (b := w.heap.size + 1) (.slice sa sn sc) (.int .i64 a2.op) (.int .i64 a2.at_) (.int .u64 (U a2.a)) (.int .u64 (U a2.b)) (fn2) (.pointer none) hnF)
      have hS : (put7 (w.heap.size + 1) (.slice sa sn sc) (.int .i64 a2.op) (.int .i64 a2.at_) (.int .u64 (U a2.a)) (.int .u64 (U a2.b)) (fn2) (.pointer none) w').heap.size = w'.heap.size := put7_size (.slice sa sn sc) (.int .i64 a2.op) (.int .i64 a2.at_) (.int .u64 (U a2.a)) (.int .u64 (U a2.b)) (fn2) (.pointer none)
      obtain ⟨c0, c1, c2, c3, c4, c5, c6, cz, ll⟩ := sev_of hbx
      rw [put7] at hXX hB hP hS
      have HX := Lib.hid (And.intro hXX (And.intro hB (And.intro hP hS)))
      have HFN := Lib.hid hfn
      have HBN := Lib.hid hbn
      have HSUB := Lib.hid hsub
      clear hXX hB hP hS hX hbx hp hfn hbn hsub hnF
      rcases HFN.out with rfl | ⟨g', caps', rfl⟩
      all_goals
        go_wp2
        clear c0 c1 c2 c3 c4 c5 c6 cz ll
        obtain ⟨hX, hB, hP, hS⟩ := HX.out
        clear HX
        generalize (World.setCell _ (⟨w.heap.size + 1, 6, none⟩ : Addr) _) = Z at hX hB hP hS ⊢
        obtain ⟨c0, c1, c2, c3, c4, c5, c6, cz, ll⟩ := sev_of hB
        exact bodyPost_ret (by simp only [results, Tryz.results188, go_sem]; simp [go_sem, c0, c1, c2, c3, c4, c5, c6]) rfl ⟨_, F', rfl, hX, hP, fun j hj => by rw [hS]; exact HBN.out j hj, HSUB.out⟩
end Go.Proofs.YtpidmbclgfnekaaGreat

/-
  What the call of freed comes to. Conditions: those of each theorem.
-/
namespace Go.Proofs.YtpidmbclgfnekaaGreat
open Go Go.RowKit

/-- A block of three cells stored anew. -/
def putS (b : Nat) (y0 y1 y2 : Value) (w : World) : World := ((w.setCell ⟨b, 0, none⟩ y0).setCell ⟨b, 1, none⟩ y1).setCell ⟨b, 2, none⟩ y2
theorem putS_block {w : World} {b : Nat} {x0 x1 x2 : Value} {t : TypeId} (y0 y1 y2 : Value) (h : w.heap[b]? = some (.cells #[x0, x1, x2] t (0, 0))) : (putS b y0 y1 y2 w).heap[b]? = some (.cells #[y0, y1, y2] t (0, 0)) := by
  unfold putS
  have h1 := set_same (o := 0) y0 h
  have h2 := set_same (o := 1) y1 h1
  have h3 := set_same (o := 2) y2 h2
  rw [h3]
  rfl
theorem putS_other {w : World} {b k : Nat} (y0 y1 y2 : Value) (h : k ≠ b) : (putS b y0 y1 y2 w).heap[k]? = w.heap[k]? := by
  unfold putS
  rw [set_other _ h, set_other _ h, set_other _ h]
theorem putS_ext {u w : World} {b : Nat} (y0 y1 y2 : Value) (h : Ext u w) (hb : u.heap.size ≤ b) : Ext u (putS b y0 y1 y2 w) := ext_set y2 hb (ext_set y1 hb (ext_set y0 hb h))
theorem putS_size {w : World} {b : Nat} (y0 y1 y2 : Value) : (putS b y0 y1 y2 w).heap.size = w.heap.size := by
  unfold putS
  rw [set_size, set_size, set_size]
set_option maxRecDepth 8000 in
set_option maxHeartbeats 2000000 in
theorem frd2_PT (p : Pl) (n : Int) (s : St) (N : Nat) (B1 B2 B3 : Nat) (w : World)  (k1 : w.heap[B1]? = some (.cells #[.int .i64 s.g, .int .i64 s.m, .int .i64 s.k] 56 (0, 0))) (k2 : PBox B2 p w) (k3 : w.heap[B3]? = some (.cells #[.int .i64 n] 3 (0, 0))) :
    Calls Tryz.prog 199 #[.agg #[], .pointer (some ⟨B1, 0, none⟩), .pointer (some ⟨B2, 0, none⟩), .pointer (some ⟨B3, 0, none⟩)] w (RetP (PT kI (frd2T p n s N)) noF w) := by
  by_cases hm : s.m = 3
  · have eT : frd2T p n s N = .done (-1) := by unfold frd2T; rw [if_pos hm]
    rw [eT]
    clear eT
    have z1 := cell_at (o := 1) k1 rfl
    have z2 := cell_at (o := 2) k1 rfl
    have qk1 := heap_lt k1
    have d1_0 := cell_at (o := 0) k1 rfl
    have e1 := cell_lt d1_0
    have qk2 := heap_lt k2
    have ⟨c0, c1, c2, c3, c4, c5, lt⟩ := PBox.plc k2
    have qk3 := heap_lt k3
    have d3_0 := cell_at (o := 0) k3 rfl
    have e3 := cell_lt d3_0
    replace k1 := Lib.hid k1
    replace k2 := Lib.hid k2
    replace k3 := Lib.hid k3
    go_enter Tryz.func199, Tryz.ntmps199
    go_wp2_with (go_at_call 89; refine Hid.out ?_)
    refine Lib.hid ?_
    have hE : Ext w ((w.alloc (.cells #[] 82)).alloc (.cells #[.int .i64 0, .int .i64 0, .int .i64 0, .int .u64 0, .int .u64 0, .nilFunc, .pointer none] 62)) := by repeat (first | exact ext_refl _ | apply ext_alloc)
    have hb0 : ((w.alloc (.cells #[] 82)).alloc (.cells #[.int .i64 0, .int .i64 0, .int .i64 0, .int .u64 0, .int .u64 0, .nilFunc, .pointer none] 62)).heap[w.heap.size]? = some (.cells #[] 82) := (Below.heap_alloc _ _ _ (by simp <;> omega)).trans (heap_at _ _ _ (by simp))
    have hb1 : ((w.alloc (.cells #[] 82)).alloc (.cells #[.int .i64 0, .int .i64 0, .int .i64 0, .int .u64 0, .int .u64 0, .nilFunc, .pointer none] 62)).heap[w.heap.size + 1]? = some (.cells #[.int .i64 0, .int .i64 0, .int .i64 0, .int .u64 0, .int .u64 0, .nilFunc, .pointer none] 62) := heap_at _ _ _ (by simp)
    have hW : ((w.alloc (.cells #[] 82)).alloc (.cells #[.int .i64 0, .int .i64 0, .int .i64 0, .int .u64 0, .int .u64 0, .nilFunc, .pointer none] 62)).heap.size = w.heap.size + 1 + 1 := by simp
    generalize ((w.alloc (.cells #[] 82)).alloc (.cells #[.int .i64 0, .int .i64 0, .int .i64 0, .int .u64 0, .int .u64 0, .nilFunc, .pointer none] 62)) = W at hE hb0 hb1 hW ⊢
    replace k1 := (hE.block _ (heap_lt k1.out)).trans k1.out
    replace k2 := (hE.block _ (heap_lt k2.out)).trans k2.out
    replace k3 := (hE.block _ (heap_lt k3.out)).trans k3.out
    clear hW
    clear d1_0 e1 c0 c1 c2 c3 c4 c5 lt d3_0 e3
    refine (doneI_PT (-1) W).mono ?_
    rintro e w' hR
    obtain ⟨v', F', rfl, hX, hp, hbn, hsub, hnF, hbq⟩ := hR.tail (G := noF) (w.heap.size + 1) hE (heap_lt hb1) (fun h => h) (fun _ h => h.elim)
    have hbx := hbq.trans hb1
    clear hbq hR
    clear hE hb0 hb1 k1 k2 k3 z1 z2
    obtain ⟨y, a2, fn2, rfl, hfn⟩ := shI hp
    have hXX := put7_ext (b := w.heap.size + 1) (.int .i64 y) (.int .i64 a2.op) (.int .i64 a2.at_) (.int .u64 (U a2.a)) (.int .u64 (U a2.b)) (fn2) (.pointer none) hX (by omega)
    have hB := put7_block (.int .i64 y) (.int .i64 a2.op) (.int .i64 a2.at_) (.int .u64 (U a2.a)) (.int .u64 (U a2.b)) (fn2) (.pointer none) hbx
    have hP := hp.agr (Agr.of_put7 (b := w.heap.size + 1) (.int .i64 y) (.int .i64 a2.op) (.int .i64 a2.at_) (.int .u64 (U a2.a)) (.int .u64 (U a2.b)) (fn2) (.pointer none) hnF)
    have hS : (put7 (w.heap.size + 1) (.int .i64 y) (.int .i64 a2.op) (.int .i64 a2.at_) (.int .u64 (U a2.a)) (.int .u64 (U a2.b)) (fn2) (.pointer none) w').heap.size = w'.heap.size := put7_size (.int .i64 y) (.int .i64 a2.op) (.int .i64 a2.at_) (.int .u64 (U a2.a)) (.int .u64 (U a2.b)) (fn2) (.pointer none)
    obtain ⟨c0, c1, c2, c3, c4, c5, c6, cz, ll⟩ := sev_of hbx
    rw [put7] at hXX hB hP hS
    have HX := Lib.hid (And.intro hXX (And.intro hB (And.intro hP hS)))
    have HFN := Lib.hid hfn
    have HBN := Lib.hid hbn
    have HSUB := Lib.hid hsub
    clear hXX hB hP hS hX hbx hp hfn hbn hsub hnF
    rcases HFN.out with rfl | ⟨g', caps', rfl⟩
    all_goals
      go_wp2
      clear c0 c1 c2 c3 c4 c5 c6 cz ll
      obtain ⟨hX, hB, hP, hS⟩ := HX.out
      clear HX
      generalize (World.setCell _ (⟨w.heap.size + 1, 6, none⟩ : Addr) _) = Z at hX hB hP hS ⊢
      obtain ⟨c0, c1, c2, c3, c4, c5, c6, cz, ll⟩ := sev_of hB
      exact bodyPost_ret (by simp only [results, Tryz.results199, go_sem]; simp [go_sem, c0, c1, c2, c3, c4, c5, c6]) rfl ⟨_, F', rfl, hX, hP, fun j hj => by rw [hS]; exact HBN.out j hj, HSUB.out⟩
  · have eT : frd2T p n s N = pushT p n N := by unfold frd2T; rw [if_neg hm]
    rw [eT]
    clear eT
    have z1 := cell_at (o := 1) k1 rfl
    have z2 := cell_at (o := 2) k1 rfl
    have qk1 := heap_lt k1
    have d1_0 := cell_at (o := 0) k1 rfl
    have e1 := cell_lt d1_0
    have qk2 := heap_lt k2
    have ⟨c0, c1, c2, c3, c4, c5, lt⟩ := PBox.plc k2
    have qk3 := heap_lt k3
    have d3_0 := cell_at (o := 0) k3 rfl
    have e3 := cell_lt d3_0
    replace k1 := Lib.hid k1
    replace k2 := Lib.hid k2
    replace k3 := Lib.hid k3
    go_enter Tryz.func199, Tryz.ntmps199
    go_wp2_with (go_at_call 200; refine Hid.out ?_)
    refine Lib.hid ?_
    have hE : Ext w ((w.alloc (.cells #[] 82)).alloc (.cells #[.int .i64 0, .int .i64 0, .int .i64 0, .int .u64 0, .int .u64 0, .nilFunc, .pointer none] 62)) := by repeat (first | exact ext_refl _ | apply ext_alloc)
    have hb0 : ((w.alloc (.cells #[] 82)).alloc (.cells #[.int .i64 0, .int .i64 0, .int .i64 0, .int .u64 0, .int .u64 0, .nilFunc, .pointer none] 62)).heap[w.heap.size]? = some (.cells #[] 82) := (Below.heap_alloc _ _ _ (by simp <;> omega)).trans (heap_at _ _ _ (by simp))
    have hb1 : ((w.alloc (.cells #[] 82)).alloc (.cells #[.int .i64 0, .int .i64 0, .int .i64 0, .int .u64 0, .int .u64 0, .nilFunc, .pointer none] 62)).heap[w.heap.size + 1]? = some (.cells #[.int .i64 0, .int .i64 0, .int .i64 0, .int .u64 0, .int .u64 0, .nilFunc, .pointer none] 62) := heap_at _ _ _ (by simp)
    have hW : ((w.alloc (.cells #[] 82)).alloc (.cells #[.int .i64 0, .int .i64 0, .int .i64 0, .int .u64 0, .int .u64 0, .nilFunc, .pointer none] 62)).heap.size = w.heap.size + 1 + 1 := by simp
    generalize ((w.alloc (.cells #[] 82)).alloc (.cells #[.int .i64 0, .int .i64 0, .int .i64 0, .int .u64 0, .int .u64 0, .nilFunc, .pointer none] 62)) = W at hE hb0 hb1 hW ⊢
    replace k1 := (hE.block _ (heap_lt k1.out)).trans k1.out
    replace k2 := (hE.block _ (heap_lt k2.out)).trans k2.out
    replace k3 := (hE.block _ (heap_lt k3.out)).trans k3.out
    clear hW
    clear d1_0 e1 c0 c1 c2 c3 c4 c5 lt d3_0 e3
    refine (push_PT p n N W).mono ?_
    rintro e w' hR
    obtain ⟨v', F', rfl, hX, hp, hbn, hsub, hnF, hbq⟩ := hR.tail (G := noF) (w.heap.size + 1) hE (heap_lt hb1) (fun h => h) (fun _ h => h.elim)
    have hbx := hbq.trans hb1
    clear hbq hR
    clear hE hb0 hb1 k1 k2 k3 z1 z2
    obtain ⟨y, a2, fn2, rfl, hfn⟩ := shI hp
    have hXX := put7_ext (b := w.heap.size + 1) (.int .i64 y) (.int .i64 a2.op) (.int .i64 a2.at_) (.int .u64 (U a2.a)) (.int .u64 (U a2.b)) (fn2) (.pointer none) hX (by omega)
    have hB := put7_block (.int .i64 y) (.int .i64 a2.op) (.int .i64 a2.at_) (.int .u64 (U a2.a)) (.int .u64 (U a2.b)) (fn2) (.pointer none) hbx
    have hP := hp.agr (Agr.of_put7 (b := w.heap.size + 1) (.int .i64 y) (.int .i64 a2.op) (.int .i64 a2.at_) (.int .u64 (U a2.a)) (.int .u64 (U a2.b)) (fn2) (.pointer none) hnF)
    have hS : (put7 (w.heap.size + 1) (.int .i64 y) (.int .i64 a2.op) (.int .i64 a2.at_) (.int .u64 (U a2.a)) (.int .u64 (U a2.b)) (fn2) (.pointer none) w').heap.size = w'.heap.size := put7_size (.int .i64 y) (.int .i64 a2.op) (.int .i64 a2.at_) (.int .u64 (U a2.a)) (.int .u64 (U a2.b)) (fn2) (.pointer none)
    obtain ⟨c0, c1, c2, c3, c4, c5, c6, cz, ll⟩ := sev_of hbx
    rw [put7] at hXX hB hP hS
    have HX := Lib.hid (And.intro hXX (And.intro hB (And.intro hP hS)))
    have HFN := Lib.hid hfn
    have HBN := Lib.hid hbn
    have HSUB := Lib.hid hsub
    clear hXX hB hP hS hX hbx hp hfn hbn hsub hnF
    rcases HFN.out with rfl | ⟨g', caps', rfl⟩
    all_goals
      go_wp2
      clear c0 c1 c2 c3 c4 c5 c6 cz ll
      obtain ⟨hX, hB, hP, hS⟩ := HX.out
      clear HX
      generalize (World.setCell _ (⟨w.heap.size + 1, 6, none⟩ : Addr) _) = Z at hX hB hP hS ⊢
      obtain ⟨c0, c1, c2, c3, c4, c5, c6, cz, ll⟩ := sev_of hB
      exact bodyPost_ret (by simp only [results, Tryz.results199, go_sem]; simp [go_sem, c0, c1, c2, c3, c4, c5, c6]) rfl ⟨_, F', rfl, hX, hP, fun j hj => by rw [hS]; exact HBN.out j hj, HSUB.out⟩
theorem frd2_CT (p : Pl) (n : Int) (s : St) (N : Nat) (B1 B2 B3 : Nat) (w : World)  (k1 : w.heap[B1]? = some (.cells #[.int .i64 s.g, .int .i64 s.m, .int .i64 s.k] 56 (0, 0))) (k2 : PBox B2 p w) (k3 : w.heap[B3]? = some (.cells #[.int .i64 n] 3 (0, 0))) :
    CT kN kI (fun _ => frd2T p n s N) (fun j => j = B1 ∨ j = B2 ∨ j = B3) (.func (.func 199) #[] #[.pointer (some ⟨B1, 0, none⟩), .pointer (some ⟨B2, 0, none⟩), .pointer (some ⟨B3, 0, none⟩)]) w :=
  ⟨_, _, rfl, enters_of Tryz.func199 (by kernel_rfl) rfl, fun _ w' ha => (frd2_PT p n s N  B1 B2 B3 w'  ((ha B1 (.inl rfl)).trans k1) ((ha B2 (.inr (.inl rfl))).trans k2) ((ha B3 (.inr (.inr rfl))).trans k3)).mono fun _ _ h => h.mono fun _ h => h.elim⟩
set_option maxRecDepth 8000 in
set_option maxHeartbeats 2000000 in
theorem frd_PT (p : Pl) (n : Int) (N : Nat) (x : BitVec 64) (w : World)   :
    Calls Tryz.prog 191 #[plV p, .int .i64 n, .int .u64 (U x)] w (RetP (PT kI (frdT p n N x)) noF w) := by
  obtain ⟨s0, hs0⟩ : ∃ s0, ofS x = s0 := ⟨_, rfl⟩
  obtain ⟨s1, hs1⟩ : ∃ s1, s0.freed p.g = s1 := ⟨_, rfl⟩
  have eT : frdT p n N x = (setT (p.stF n) s1.word).bind fun _ => frd2T p n s1 N := by unfold frdT; rw [hs0, hs1]
  rw [eT]
  clear eT
  obtain ⟨g0, m0, j0⟩ := s0
  obtain ⟨g1, m1, j1⟩ := s1
  have hO : ∀ W, Calls Tryz.prog 78 #[.int .u64 (U x)] W (Ret (.tuple #[.agg #[.int .i64 g0, .int .i64 m0, .int .i64 j0], .bool (decide (isW x))]) W) := fun W => by
    have := of_any x W
    rw [hs0] at this
    exact this
  have hF : ∀ W, Calls Tryz.prog 198 #[.agg #[.int .i64 g0, .int .i64 m0, .int .i64 j0], .int .i64 p.g] W (Ret (.agg #[.int .i64 g1, .int .i64 m1, .int .i64 j1]) W) := fun W => by
    have := freed_any ⟨g0, m0, j0⟩ p.g W
    rw [hs1] at this
    exact this
  have hD : ∀ W, Calls Tryz.prog 18 #[.agg #[.int .i64 g1, .int .i64 m1, .int .i64 j1]] W (Ret (.int .u64 (U (St.word ⟨g1, m1, j1⟩))) W) := fun W => word_any ⟨g1, m1, j1⟩ W
  clear hs0 hs1
  replace hO := Lib.hid hO
  replace hF := Lib.hid hF
  replace hD := Lib.hid hD
  go_enter Tryz.func191, Tryz.ntmps191
  go_wp2_with (go_at_call 78; refine Hid.out ?_)
  refine Lib.hid ?_
  have hE : Ext w (((w.alloc (.cells #[.int .i64 p.n, .int .i64 p.t, .int .i64 p.r, .int .i64 p.d, .int .i64 p.b, .int .i64 p.g] 23)).alloc (.cells #[.int .i64 n] 3)).alloc (.cells #[.int .i64 0, .int .i64 0, .int .i64 0, .int .u64 0, .int .u64 0, .nilFunc, .pointer none] 62)) := by repeat (first | exact ext_refl _ | apply ext_alloc)
  have hb0 : (((w.alloc (.cells #[.int .i64 p.n, .int .i64 p.t, .int .i64 p.r, .int .i64 p.d, .int .i64 p.b, .int .i64 p.g] 23)).alloc (.cells #[.int .i64 n] 3)).alloc (.cells #[.int .i64 0, .int .i64 0, .int .i64 0, .int .u64 0, .int .u64 0, .nilFunc, .pointer none] 62)).heap[w.heap.size]? = some (.cells #[.int .i64 p.n, .int .i64 p.t, .int .i64 p.r, .int .i64 p.d, .int .i64 p.b, .int .i64 p.g] 23) := (Below.heap_alloc _ _ _ (by simp <;> omega)).trans ((Below.heap_alloc _ _ _ (by simp <;> omega)).trans (heap_at _ _ _ (by simp)))
  have hb1 : (((w.alloc (.cells #[.int .i64 p.n, .int .i64 p.t, .int .i64 p.r, .int .i64 p.d, .int .i64 p.b, .int .i64 p.g] 23)).alloc (.cells #[.int .i64 n] 3)).alloc (.cells #[.int .i64 0, .int .i64 0, .int .i64 0, .int .u64 0, .int .u64 0, .nilFunc, .pointer none] 62)).heap[w.heap.size + 1]? = some (.cells #[.int .i64 n] 3) := (Below.heap_alloc _ _ _ (by simp <;> omega)).trans (heap_at _ _ _ (by simp))
  have hb2 : (((w.alloc (.cells #[.int .i64 p.n, .int .i64 p.t, .int .i64 p.r, .int .i64 p.d, .int .i64 p.b, .int .i64 p.g] 23)).alloc (.cells #[.int .i64 n] 3)).alloc (.cells #[.int .i64 0, .int .i64 0, .int .i64 0, .int .u64 0, .int .u64 0, .nilFunc, .pointer none] 62)).heap[w.heap.size + 1 + 1]? = some (.cells #[.int .i64 0, .int .i64 0, .int .i64 0, .int .u64 0, .int .u64 0, .nilFunc, .pointer none] 62) := heap_at _ _ _ (by simp)
  have hW : (((w.alloc (.cells #[.int .i64 p.n, .int .i64 p.t, .int .i64 p.r, .int .i64 p.d, .int .i64 p.b, .int .i64 p.g] 23)).alloc (.cells #[.int .i64 n] 3)).alloc (.cells #[.int .i64 0, .int .i64 0, .int .i64 0, .int .u64 0, .int .u64 0, .nilFunc, .pointer none] 62)).heap.size = w.heap.size + 1 + 1 + 1 := by simp
  generalize (((w.alloc (.cells #[.int .i64 p.n, .int .i64 p.t, .int .i64 p.r, .int .i64 p.d, .int .i64 p.b, .int .i64 p.g] 23)).alloc (.cells #[.int .i64 n] 3)).alloc (.cells #[.int .i64 0, .int .i64 0, .int .i64 0, .int .u64 0, .int .u64 0, .nilFunc, .pointer none] 62)) = W at hE hb0 hb1 hb2 hW ⊢
  clear hW
  refine (hO.out W).mono ?_
  rintro e wa ⟨rfl, hx⟩
  replace hE := ext_trans hE hx
  replace hb0 := (hx.block _ (heap_lt hb0)).trans hb0
  replace hb1 := (hx.block _ (heap_lt hb1)).trans hb1
  replace hb2 := (hx.block _ (heap_lt hb2)).trans hb2
  clear hx
  have ⟨c0, c1, c2, c3, c4, c5, lt⟩ := PBox.plc hb0
  replace hE := Lib.hid hE
  replace hb0 := Lib.hid hb0
  replace hb1 := Lib.hid hb1
  replace hb2 := Lib.hid hb2
  go_wp2_with (go_at_call 198; refine Hid.out ?_)
  refine Lib.hid ?_
  replace hE := hE.out
  replace hb0 := hb0.out
  replace hb1 := hb1.out
  replace hb2 := hb2.out
  clear c0 c1 c2 c3 c4 c5 lt
  have hx : Ext wa (wa.alloc (.cells #[.int .i64 g0, .int .i64 m0, .int .i64 j0] 56)) := ext_alloc _ (ext_refl wa)
  have hb3 : (wa.alloc (.cells #[.int .i64 g0, .int .i64 m0, .int .i64 j0] 56)).heap[wa.heap.size]? = some (.cells #[.int .i64 g0, .int .i64 m0, .int .i64 j0] 56) := heap_at _ _ _ rfl
  have hszhb3 := hE.size
  have hrbhb3 := heap_lt hb2
  generalize wa.alloc (.cells #[.int .i64 g0, .int .i64 m0, .int .i64 j0] 56) = waA at hx hb3 ⊢
  replace hE := ext_trans hE hx
  replace hb0 := (hx.block _ (heap_lt hb0)).trans hb0
  replace hb1 := (hx.block _ (heap_lt hb1)).trans hb1
  replace hb2 := (hx.block _ (heap_lt hb2)).trans hb2
  clear hx
  refine (hF.out waA).mono ?_
  rintro e wb ⟨rfl, hx⟩
  replace hE := ext_trans hE hx
  replace hb0 := (hx.block _ (heap_lt hb0)).trans hb0
  replace hb1 := (hx.block _ (heap_lt hb1)).trans hb1
  replace hb2 := (hx.block _ (heap_lt hb2)).trans hb2
  replace hb3 := (hx.block _ (heap_lt hb3)).trans hb3
  clear hx
  have z0 := cell_at (o := 0) hb3 rfl
  have z1 := cell_at (o := 1) hb3 rfl
  have z2 := cell_at (o := 2) hb3 rfl
  have zz : ∀ o, wb.frozen? ⟨wa.heap.size, o, none⟩ = false := fun _ => free_at hb3
  have zl := heap_lt hb3
  have hX := putS_ext (b := wa.heap.size) (.int .i64 g1) (.int .i64 m1) (.int .i64 j1) hE (by omega)
  have hB := putS_block (.int .i64 g1) (.int .i64 m1) (.int .i64 j1) hb3
  have hq0 := (putS_other (w := wb) (b := wa.heap.size) (k := w.heap.size) (.int .i64 g1) (.int .i64 m1) (.int .i64 j1) (by omega)).trans hb0
  have hq1 := (putS_other (w := wb) (b := wa.heap.size) (k := w.heap.size + 1) (.int .i64 g1) (.int .i64 m1) (.int .i64 j1) (by omega)).trans hb1
  have hq2 := (putS_other (w := wb) (b := wa.heap.size) (k := w.heap.size + 1 + 1) (.int .i64 g1) (.int .i64 m1) (.int .i64 j1) (by omega)).trans hb2
  rw [putS] at hX hB hq0 hq1 hq2
  have HQ := Lib.hid (And.intro hX (And.intro hB (And.intro hq0 (And.intro hq1 hq2))))
  clear hX hB hq0 hq1 hq2
  replace hE := Lib.hid hE
  replace hb0 := Lib.hid hb0
  replace hb1 := Lib.hid hb1
  replace hb2 := Lib.hid hb2
  replace hb3 := Lib.hid hb3
  go_upto_region 3 with (fail)
  clear z0 z1 z2 zz zl hE hb0 hb1 hb2 hb3
  obtain ⟨hE, hb3, hb0, hb1, hb2⟩ := HQ.out
  clear HQ
  generalize (World.setCell _ (⟨wa.heap.size, 2, none⟩ : Addr) _) = X at hE hb3 hb0 hb1 hb2 ⊢
  have ⟨c0, c1, c2, c3, c4, c5, lt⟩ := PBox.plc hb0
  have d2 := cell_at (o := 0) hb1 rfl
  have d3 := cell_at (o := 0) hb3 rfl
  have d4 := cell_at (o := 1) hb3 rfl
  have d5 := cell_at (o := 2) hb3 rfl
  have e2 := cell_lt d2
  have e3 := cell_lt d3
  replace hE := Lib.hid hE
  replace hb0 := Lib.hid hb0
  replace hb1 := Lib.hid hb1
  replace hb2 := Lib.hid hb2
  replace hb3 := Lib.hid hb3
  refine wp_region_mix (fun w' => ∃ s, w' = over X s) [(0, [0, 1, 3, 6]), (1, [2]), (1, [4]), (1, [5]), (1, [7]), (2, [8])] (by kernel_rfl) (by kernel_rfl) (over_of (ext_drew (ext_refl X))) ?_
  simp only [pieces, pickL, List.map_cons, List.map_nil, List.getD_cons_zero, List.getD_cons_succ]
  refine mix_reads ?_
  repeat (go_big_quiet_step (fail))
  refine wpQuiet_nil (mix_acts ?_)
  have HX0 := Lib.hid (ext_drew (ext_refl X))
  go_wp2_with (go_at_call 17; refine (state_any p n _).mono ?_; rintro e w1 ⟨rfl, hx⟩; have HX1 := Lib.hid (ext_trans HX0.out hx); clear hx)
  refine mixQ_mk (over_of HX1.out) (mix_acts ?_)
  go_wp2_with (go_at_call 18; refine (hD.out _).mono ?_; rintro e w2 ⟨rfl, hx⟩; have HX2 := Lib.hid (ext_trans HX1.out hx); clear hx)
  refine mixQ_mk (over_of HX2.out) (mix_acts ?_)
  go_wp2_with (go_at_call 110; refine (set_PT (p.stF n) (St.word ⟨g1, m1, j1⟩) _).mono ?_; rintro e w4 ⟨v1, F1, rfl, hx, hp1, hbn1, hsub1⟩; refine Hid.out ?_)
  refine Lib.hid ?_
  replace hE := hE.out
  replace hb0 := hb0.out
  replace hb1 := hb1.out
  replace hb2 := hb2.out
  replace hb3 := hb3.out
  have hn1 : ¬ F1 (w.heap.size + 1 + 1) := fun h => (hsub1 _ h).elim (fun h => h) fun h => by have := heap_lt hb2; have := HX2.out.size; omega
  have hs1 : ∀ j, F1 j → noF j ∨ w.heap.size ≤ j := fun j hj => (hsub1 j hj).imp_right fun h => Nat.le_trans (Nat.le_trans hE.size HX2.out.size) h
  have HX4 := Lib.hid (ext_trans HX2.out hx)
  replace hb0 := (HX4.out.block _ (heap_lt hb0)).trans hb0
  replace hb1 := (HX4.out.block _ (heap_lt hb1)).trans hb1
  replace hb2 := (HX4.out.block _ (heap_lt hb2)).trans hb2
  replace hb3 := (HX4.out.block _ (heap_lt hb3)).trans hb3
  replace hE := ext_trans hE HX4.out
  clear hx hsub1
  replace hE := Lib.hid hE
  replace hb0 := Lib.hid hb0
  replace hb1 := Lib.hid hb1
  replace hb2 := Lib.hid hb2
  replace hb3 := Lib.hid hb3
  replace hp1 := Lib.hid hp1
  replace hbn1 := Lib.hid hbn1
  replace hs1 := Lib.hid hs1
  replace hn1 := Lib.hid hn1
  go_wp2
  refine mixQ_mk (over_of HX4.out) (mix_acts ?_)
  go_wp2_with (go_at_call 133; refine Hid.out ?_)
  refine Lib.hid ?_
  replace hE := hE.out
  replace hb0 := hb0.out
  replace hb1 := hb1.out
  replace hb2 := hb2.out
  replace hb3 := hb3.out
  replace hp1 := hp1.out
  replace hbn1 := hbn1.out
  replace hs1 := hs1.out
  replace hn1 := hn1.out
  have hCT := frd2_CT p n ⟨g1, m1, j1⟩ N wa.heap.size w.heap.size (w.heap.size + 1) w4 hb3 hb0 hb1
  refine (then_NI _ _ F1 _ v1 _ w4 hp1 hCT hbn1 (fun j h => by rcases h with rfl | rfl | rfl; exact heap_lt hb3; exact heap_lt hb0; exact heap_lt hb1)).mono ?_
  rintro e w' hR
  have HXZ := Lib.hid (ext_trans HX4.out hR.ext)
  obtain ⟨v', F', rfl, hX, hp, hbn, hsub, hnF, hbq⟩ := hR.tail (G := noF) (w.heap.size + 1 + 1) hE (heap_lt hb2) (fun h => by rcases h with h | h | h | h; exact hn1 h; omega; omega; omega) (fun j h => by rcases h with h | h | h | h; exact hs1 j h; exact .inr (by omega); exact .inr (by omega); exact .inr (by omega))
  have hbx := hbq.trans hb2
  clear hbq hR
  go_wp2
  refine mixQ_mk (over_of HXZ.out) (mix_late ?_)
  clear hE hb0 hb1 hb2 hb3 hp1 hbn1 hs1 hn1 hCT c0 c1 c2 c3 c4 c5 lt d2 d3 d4 d5 e2 e3 hO hF hD
  obtain ⟨y, a2, fn2, rfl, hfn⟩ := shI hp
  have hXX := put7_ext (b := w.heap.size + 1 + 1) (.int .i64 y) (.int .i64 a2.op) (.int .i64 a2.at_) (.int .u64 (U a2.a)) (.int .u64 (U a2.b)) (fn2) (.pointer none) hX (by omega)
  have hB := put7_block (.int .i64 y) (.int .i64 a2.op) (.int .i64 a2.at_) (.int .u64 (U a2.a)) (.int .u64 (U a2.b)) (fn2) (.pointer none) hbx
  have hP := hp.agr (Agr.of_put7 (b := w.heap.size + 1 + 1) (.int .i64 y) (.int .i64 a2.op) (.int .i64 a2.at_) (.int .u64 (U a2.a)) (.int .u64 (U a2.b)) (fn2) (.pointer none) hnF)
  have hS : (put7 (w.heap.size + 1 + 1) (.int .i64 y) (.int .i64 a2.op) (.int .i64 a2.at_) (.int .u64 (U a2.a)) (.int .u64 (U a2.b)) (fn2) (.pointer none) w').heap.size = w'.heap.size := put7_size (.int .i64 y) (.int .i64 a2.op) (.int .i64 a2.at_) (.int .u64 (U a2.a)) (.int .u64 (U a2.b)) (fn2) (.pointer none)
  obtain ⟨c0, c1, c2, c3, c4, c5, c6, cz, ll⟩ := sev_of hbx
  rw [put7] at hXX hB hP hS
  have HX := Lib.hid (And.intro hXX (And.intro hB (And.intro hP hS)))
  have HFN := Lib.hid hfn
  have HBN := Lib.hid hbn
  have HSUB := Lib.hid hsub
  clear hXX hB hP hS hX hbx hp hfn hbn hsub hnF
  rcases HFN.out with rfl | ⟨g', caps', rfl⟩
  all_goals
    go_wp2
    refine lateQ_mk (fun _ => True) trivial (mix_end ?_)
    clear c0 c1 c2 c3 c4 c5 c6 cz ll
    obtain ⟨hX, hB, hP, hS⟩ := HX.out
    clear HX
    generalize (World.setCell _ (⟨w.heap.size + 1 + 1, 6, none⟩ : Addr) _) = Z at hX hB hP hS ⊢
    obtain ⟨c0, c1, c2, c3, c4, c5, c6, cz, ll⟩ := sev_of hB
    go_wp2
    exact bodyPost_ret (by simp only [results, Tryz.results191, go_sem]; simp [go_sem, c0, c1, c2, c3, c4, c5, c6]) rfl ⟨_, F', rfl, hX, hP, fun j hj => by rw [hS]; exact HBN.out j hj, HSUB.out⟩
end Go.Proofs.YtpidmbclgfnekaaGreat
