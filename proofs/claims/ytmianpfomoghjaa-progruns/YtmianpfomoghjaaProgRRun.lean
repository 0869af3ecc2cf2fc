/-
  What the call of the document's own Run comes to. Conditions: those of each theorem.
-/
import Derived.Test.YtmianpfomoghjaaProgLaw
import Derived.Test.YtmianpfomoghjaaMemRAny
import Derived.Test.YtmianpfomoghjaaFork
import Derived.Deep.AppendLies
namespace Go.Proofs.Ytmianpfomoghjaa
open Go Go.RowKit

/-- What it stands in, and no more. -/
theorem RefIn.tight {b0 : Nat → Prop} {R : RL} {M : MS} {w w' : World} (h : RefIn b0 R M w) (hs : w.heap.size ≤ w'.heap.size) (hc : ∀ b o, b0 b → b < w.heap.size → w'.cell? ⟨b, o, none⟩ = w.cell? ⟨b, o, none⟩) :
    RefIn (fun b => (b0 b ∧ b < w.heap.size) ∨ w'.heap.size ≤ b) R M w' :=
  have k := h.keep hs hc
  ⟨k.few, k.small, fun _ hb => .inr hb, fun hn => ⟨(k.wA hn).1, .inl ⟨(h.wA hn).2.1, (h.wA hn).2.2⟩, (k.wA hn).2.2⟩, fun hn => ⟨(k.eA hn).1, .inl ⟨(h.eA hn).2.1, (h.eA hn).2.2⟩, (k.eA hn).2.2⟩, k.wR, k.eR, fun i hi => ⟨.inl ⟨(h.xA i hi).1, (h.xA i hi).2⟩, (k.xA i hi).2⟩, k.xR⟩
theorem drop_cons' (l : List Acc) (k : Nat) (h : k < l.length) : l.drop k = aN l k :: l.drop (k + 1) := by
  rw [List.drop_eq_getElem_cons h]
  simp [aN, List.getD_eq_getElem?_getD, h]
structure RRIn (B : Nat) (l : List Acc) (m : Nat) (M : MS) (r : Int) (e : BitVec 64) (w : World) (k : Nat) (ts : List (BitVec 64)) (M' : MS) (R' : RL) (c : Nat → Prop) (ov : Value) (wr : World) : Prop where
  kt : k = ts.length
  kl : k ≤ l.length
  km : k ≤ m
  ras : runAs r e l m M ts (l.drop k) (m - k) M'
  ref : RefIn c R' M' wr
  cB : ¬ c B
  cR : ¬ c (B + 1 + 1)
  cO : ∀ g, ov.ownBlock = some g → ¬ c g
  box : BoxV B R' M' wr
  cap : wr.heap[B + 1]? = some (.cells #[.int .i64 r, .int .u64 (U e)] 37)
  res : BoxA (B + 1 + 1) (.slice none 0 0) (.slice none 0 0) (.int .i64 0) wr
  own : wr.ownsRow (B + 3) 35 1 ov ts.length (ts.map W1)
  ext : Ext w wr
  big : B + 3 ≤ wr.heap.size
def RRRel (B : Nat) (l : List Acc) (m : Nat) (M : MS) (r : Int) (e : BitVec 64) (w : World) (ov i : Value) (wr : World) : Prop :=
  ∃ (k : Nat) (ts : List (BitVec 64)) (M' : MS) (R' : RL) (c : Nat → Prop), i = .int .i64 (k : Int) ∧ RRIn B l m M r e w k ts M' R' c ov wr
def RetRRun (x : MS × List (BitVec 64) × List Acc) (w : World) (en : Ending) (w' : World) : Prop :=
  ∃ ov R', en = .returned (.tuple #[ov, refV R' x.1]) ∧ Us w' ov x.2.1 ∧ RefIn (fun _ => True) R' x.1 w' ∧ Ext w w'
structure RRQ (B bd : Nat) (R2 : RL) (M2 : MS) (c : Nat → Prop) (wr T : World) : Prop where
  ref : RefIn c R2 M2 T
  boxd : BoxV bd R2 M2 T
  ext : Ext wr T
theorem BoxV.put3 {s : Nat} {R R' : RL} {M M' : MS} {w : World} (h : BoxV s R M w) :
    BoxV s R' M' (((w.setCell ⟨s, 0, none⟩ (.slice R'.wa M'.n R'.wc)).setCell ⟨s, 1, none⟩ (.slice R'.ea M'.n R'.ec)).setCell ⟨s, 2, none⟩ (.int .i64 M'.ct)) := box_put h
theorem own_fr {lo hi base : Nat} {w w' : World} {e : TypeId} {size : Nat} {v : Value} {n : Nat} {xs : List Value} (h : w.ownsRow base e size v n xs) (hf : Fr lo hi w w') (hb : hi ≤ base) : w'.ownsRow base e size v n xs := by
  refine ⟨h.1, ?_⟩
  rcases h.2 with h2 | ⟨g, cap, cur, h1, hg, hh, hr⟩
  · exact .inl h2
  · exact .inr ⟨g, cap, cur, h1, hg, (hf.block g (heap_lt hh) (.inr (by omega))).trans hh, hr⟩
theorem BoxV.same {s : Nat} {R : RL} {M : MS} {w w' : World} (h : BoxV s R M w) (hb : w'.heap[s]? = w.heap[s]?) : BoxV s R M w' :=
  ⟨(World.cell?_of_block (a := ⟨s, 0, none⟩) hb).trans h.k0, (World.cell?_of_block (a := ⟨s, 1, none⟩) hb).trans h.k1, (World.cell?_of_block (a := ⟨s, 2, none⟩) hb).trans h.k2, fun o => (World.frozen?_of_block (a := ⟨s, o, none⟩) hb).trans (h.kz o)⟩
theorem BoxA.same {s : Nat} {x y z : Value} {w w' : World} (h : BoxA s x y z w) (hb : w'.heap[s]? = w.heap[s]?) : BoxA s x y z w' :=
  ⟨(World.cell?_of_block (a := ⟨s, 0, none⟩) hb).trans h.k0, (World.cell?_of_block (a := ⟨s, 1, none⟩) hb).trans h.k1, (World.cell?_of_block (a := ⟨s, 2, none⟩) hb).trans h.k2, fun o => (World.frozen?_of_block (a := ⟨s, o, none⟩) hb).trans (h.kz o)⟩
theorem usB_own {w : World} {base : Nat} {v : Value} {l : List (BitVec 64)} (h : w.ownsRow base 35 1 v l.length (l.map W1)) : Us w v l := (usB_of_own (D := fun _ => False) h fun _ h => h.elim).us

set_option maxRecDepth 8000 in
set_option maxHeartbeats 4000000 in
theorem rrun_any {b0 : Nat → Prop} {R : RL} {M : MS} (l : List Acc) (a0 : Option Addr) (cap : Nat) (r : Int) (e : BitVec 64) (most : Int) (w : World) (x : MS × List (BitVec 64) × List Acc) (hx : Hid (runF r e l most.toNat M = x)) (hl : l.length ≤ 1000) (hA : Hid (AsB (fun _ => False) w (.slice a0 l.length cap) l)) (hR : RefIn b0 R M w) :
    Calls Try.prog 15 #[.slice a0 l.length cap, refV R M, .agg #[.int .i64 r, .int .u64 (U e)], .int .i64 most] w (RetRRun x w) := by
  obtain ⟨iU, hiU, hy0, hy1, hy2⟩ := info_parts Try.infoU64t
  have HI : Hid (RRIn w.heap.size l most.toNat M r e w 0 [] M R (fun b => (b0 b ∧ b < w.heap.size) ∨ w.heap.size + 1 + 1 + 1 ≤ b) (.slice none 0 0) (((w.alloc (.cells #[.slice R.wa M.n R.wc, .slice R.ea M.n R.ec, .int .i64 M.ct] 32)).alloc (.cells #[.int .i64 r, .int .u64 (U e)] 37)).alloc (.cells #[.slice none 0 0, .slice none 0 0, .int .i64 0] 32))) := by
    have hE : Ext w (((w.alloc (.cells #[.slice R.wa M.n R.wc, .slice R.ea M.n R.ec, .int .i64 M.ct] 32)).alloc (.cells #[.int .i64 r, .int .u64 (U e)] 37)).alloc (.cells #[.slice none 0 0, .slice none 0 0, .int .i64 0] 32)) := ext_alloc _ (ext_alloc _ (ext_alloc _ (ext_refl w)))
    have hz : (((w.alloc (.cells #[.slice R.wa M.n R.wc, .slice R.ea M.n R.ec, .int .i64 M.ct] 32)).alloc (.cells #[.int .i64 r, .int .u64 (U e)] 37)).alloc (.cells #[.slice none 0 0, .slice none 0 0, .int .i64 0] 32)).heap.size = w.heap.size + 1 + 1 + 1 := by simp
    have hT := hR.tight hE.size (fun b o _ hb => hE.cell (p := ⟨b, o, none⟩) hb)
    rw [hz] at hT
    refine Lib.hid ⟨rfl, Nat.zero_le _, Nat.zero_le _, ⟨rfl, rfl, rfl⟩, hT, (fun h => by omega), (fun h => by omega), (fun g h => by cases h), ?_, ?_, ?_, World.ownsRow_nil _ _ _ _, hE, by simp⟩
    · exact ((box_new w R M _).out.ext (ext_alloc _ (ext_refl _))).ext (ext_alloc _ (ext_refl _))
    · rw [Below.heap_alloc _ _ _ (by simp)]
      exact heap_at _ _ _ (by simp)
    · have h := BoxA.new ((w.alloc (.cells #[.slice R.wa M.n R.wc, .slice R.ea M.n R.ec, .int .i64 M.ct] 32)).alloc (.cells #[.int .i64 r, .int .u64 (U e)] 37)) (.slice none 0 0) (.slice none 0 0) (.int .i64 0) 32
      simpa using h
  clear hR
  unfold refV
  go_enter Try.func15, Try.ntmps15
  go_wp2
  generalize hW : World.alloc _ (.cells #[.slice none 0 0, .slice none 0 0, .int .i64 0] 32) = W at HI ⊢
  clear hW
  generalize hB : w.heap.size = B at HI ⊢
  go_loopw [10, 11] (fun ov i wr => RRRel B l most.toNat M r e w ov i wr) (fun ov i _ => (l.length - intOf i).toNat)
  case atStart => exact ⟨0, _, _, _, _, rfl, HI.out⟩
  case round =>
    clear HI
    obtain ⟨k, ts, M', R', c, rfl, hS⟩ := hrel
    obtain ⟨k0, k1, k2, kz⟩ := hS.box
    have lB := cell_lt k0
    have p0 := cell_at (o := 0) hS.cap rfl
    have p1 := cell_at (o := 1) hS.cap rfl
    have lC := heap_lt hS.cap
    obtain ⟨r0, r1, r2, rz⟩ := hS.res
    have lR := cell_lt r0
    have HS := Lib.hid hS
    have hkl := hS.kl
    clear hS
    by_cases hlt : k < l.length ∧ (k : Int) < most
    · obtain ⟨h1, h2⟩ := hlt
      obtain ⟨b, o, rfl, hb, hlw, hcells⟩ := hA.out.at (by omega)
      obtain ⟨d0, d1, d2, d3⟩ := hcells k h1
      replace d0 := ext_cell HS.out.ext d0
      replace d1 := ext_cell HS.out.ext d1
      replace d2 := ext_cell HS.out.ext d2
      replace d3 := ext_cell HS.out.ext d3
      have lb := cell_lt d0
      clear hcells
      obtain ⟨M2, y, okb, hsp⟩ : ∃ M2 y okb, DoSpec M' r e (aN l k) M2 y okb := by
        by_cases hd : DoOk M' r e (aN l k).op (aN l k).at_
        · exact ⟨_, _, true, .inl ⟨hd, rfl, rfl, rfl⟩⟩
        · exact ⟨_, _, false, .inr ⟨hd, rfl, rfl, rfl⟩⟩
      have HSP := Lib.hid hsp
      clear hsp
      go_wp2
      rename_i K2 hK2
      have HAFTER : ∀ {x8 x15 x16 x17 x18 x19 x20 x21 x22 x23 x24 x25 x26 x27 x28 x29 x30 x31 x32 x33 x34 x35 x36 x37 x38 x39 x40 x41 x42 x43 x44 x45 : Value} (bd : Nat) (R2 : RL) (T : World), RRQ B bd R2 M2 c wr T → K2 { tmps := #[Value.slice (some { block := b, off := o }) l.length cap, Value.agg #[Value.slice R.wa M.n R.wc, Value.slice R.ea M.n R.ec, Value.int IntKind.i64 M.ct], Value.agg #[Value.int IntKind.i64 r, Value.int IntKind.u64 (U e)], Value.int IntKind.i64 most, undef, Value.pointer (some { block := B, off := 0 }), Value.pointer (some { block := B + 1, off := 0 }), undef, x8, Value.pointer (some { block := B + 1 + 1, off := 0 }), u10, .int .i64 (k : Int), .pointer (some ⟨bd, 0, none⟩), .int .u64 (U y), .bool okb, x15, x16, x17, x18, x19, x20, x21, x22, x23, x24, x25, x26, x27, x28, x29, x30, x31, x32, x33, x34, x35, x36, x37, x38, x39, x40, x41, x42, x43, x44, x45, undef, undef], defers := [] } T := by
        intro x8 x15 x16 x17 x18 x19 x20 x21 x22 x23 x24 x25 x26 x27 x28 x29 x30 x31 x32 x33 x34 x35 x36 x37 x38 x39 x40 x41 x42 x43 x44 x45 bd R2 T hQ
        refine hK2 _ _ ?_
        clear hK2
        obtain ⟨q0, q1, q2, qz⟩ := hQ.boxd
        have lq := cell_lt q0
        have k0 := ext_cell hQ.ext k0
        have k1 := ext_cell hQ.ext k1
        have k2 := ext_cell hQ.ext k2
        have kz : ∀ o, T.frozen? ⟨B, o, none⟩ = false := fun o => by rw [hQ.ext.frozen (p := ⟨B, o, none⟩) lB]; exact kz o
        have r0 := ext_cell hQ.ext r0
        have r1 := ext_cell hQ.ext r1
        have r2 := ext_cell hQ.ext r2
        have rz : ∀ o, T.frozen? ⟨B + 1 + 1, o, none⟩ = false := fun o => by rw [hQ.ext.frozen (p := ⟨B + 1 + 1, o, none⟩) lR]; exact rz o
        have lB := Nat.lt_of_lt_of_le lB hQ.ext.size
        have lR := Nat.lt_of_lt_of_le lR hQ.ext.size
        have HO := Lib.hid (own_ext' HS.out.own hQ.ext)
        have hcap := (hQ.ext.block _ lC).trans HS.out.cap
        have hext := ext_trans HS.out.ext hQ.ext
        have HQ := Lib.hid hQ
        have HCP := Lib.hid hcap
        have HEX := Lib.hid hext
        clear hQ hcap hext d0 d1 d2 d3 p0 p1
        rcases HSP.out with ⟨hd, e1, e2, e3⟩ | ⟨hd, e1, e2, e3⟩
        · have HD := Lib.hid hd
          have HE1 := Lib.hid e1
          have HE2 := Lib.hid e2
          clear hd e1 e2
          subst e3
          have hbox := BoxV.put3 (R' := R2) (M' := M2) (HS.out.box.ext HQ.out.ext)
          have href := ((HQ.out.ref.setOut (.slice R2.wa M2.n R2.wc) (p := ⟨B, 0, none⟩) HS.out.cB).setOut (.slice R2.ea M2.n R2.ec) (p := ⟨B, 1, none⟩) HS.out.cB).setOut (.int .i64 M2.ct) (p := ⟨B, 2, none⟩) HS.out.cB
          have hfr := (((Fr.refl B (B + 1) T).set (p := ⟨B, 0, none⟩) (.slice R2.wa M2.n R2.wc) (Nat.le_refl _) (Nat.lt_succ_self _)).set (p := ⟨B, 1, none⟩) (.slice R2.ea M2.n R2.ec) (Nat.le_refl _) (Nat.lt_succ_self _)).set (p := ⟨B, 2, none⟩) (.int .i64 M2.ct) (Nat.le_refl _) (Nat.lt_succ_self _)
          have hex := ext_set (p := ⟨B, 2, none⟩) (.int .i64 M2.ct) (Nat.le_of_eq hB) (ext_set (p := ⟨B, 1, none⟩) (.slice R2.ea M2.n R2.ec) (Nat.le_of_eq hB) (ext_set (p := ⟨B, 0, none⟩) (.slice R2.wa M2.n R2.wc) (Nat.le_of_eq hB) HEX.out))
          have HBX := Lib.hid hbox
          have HRF := Lib.hid href
          have HFR := Lib.hid hfr
          have HXX := Lib.hid hex
          clear hbox href hfr hex
          go_wp2_with (at_builtin; refine Hid.out ?_)
          refine Lib.hid ?_
          replace HBX := HBX.out
          replace HRF := HRF.out
          replace HFR := HFR.out
          replace HXX := HXX.out
          have hzz : ((((T.setCell ⟨B, 0, none⟩ (.slice R2.wa M2.n R2.wc)).setCell ⟨B, 1, none⟩ (.slice R2.ea M2.n R2.ec)).setCell ⟨B, 2, none⟩ (.int .i64 M2.ct))).heap.size = T.heap.size := by rw [set_size, set_size, set_size]
          generalize (((T.setCell ⟨B, 0, none⟩ (.slice R2.wa M2.n R2.wc)).setCell ⟨B, 1, none⟩ (.slice R2.ea M2.n R2.ec)).setCell ⟨B, 2, none⟩ (.int .i64 M2.ct)) = Z at HBX HRF HFR HXX hzz ⊢
          have hOZ := own_fr HO.out HFR (by omega)
          have hOZ1 := own_ext' hOZ (ext_alloc (.cells #[.int .u64 (U y)] 35) (ext_refl Z))
          have hbig : B + 3 ≤ Z.heap.size := by rw [hzz]; have := HS.out.big; have := HQ.out.ext.size; omega
          have hgb : ∀ g, u10.ownBlock = some g → B + 3 ≤ g := fun g hg => (hOZ.lt g hg).1
          have hkt := HS.out.kt
          have HZ := Lib.hid (And.intro HBX (And.intro HRF (And.intro HFR HXX)))
          have HOZ := Lib.hid hOZ1
          have HGB := Lib.hid hgb
          clear HBX HRF HFR HXX hOZ hOZ1 hgb k0 k1 k2 kz r0 r1 r2 rz q0 q1 q2 qz HO
          refine wpList_append_lies _ rfl (.tmp 42) (.tmp 44) 30 rfl (B + 3) 35 iU (.int .u64 0) 1 8 Try.underlying30 hiU hy0 hy1 hy2 rfl (by decide) u10 ts.length (ts.map W1) rfl HOZ.out ⟨T.heap.size, 0, none⟩ 1 1 [.int .u64 (U y)] rfl rfl (by rw [← hzz]; exact newp Z _ _ _ rfl) (by simp [Value.oneCell']) (by decide) (by unfold maxLen; omega) (by omega) (by simp; omega) (Z.heap.size + 1) (by simp) ?_
          intro g2 cap2 w2 hv2 hg2 hl2 hlt2
          obtain ⟨hBX, hRF, hFR, hXX⟩ := HZ.out
          have hsz2 := hg2.size
          have hsz3 : Z.heap.size + 1 ≤ w2.heap.size := by simpa using hsz2
          have hb2 : ∀ s, s < B + 3 → w2.heap[s]? = Z.heap[s]? := fun s hs => by
            rw [hg2.block s (by simp; omega) (fun e => by have := HGB.out s e.symm; omega), Below.heap_alloc _ _ _ (by omega)]
          have hS2 : RRIn B l most.toNat M r e w (k + 1) (ts ++ [y]) M2 R2 (fun b => (c b ∧ b < Z.heap.size + 1) ∨ w2.heap.size ≤ b) (.slice (some ⟨g2, 0, none⟩) (ts.length + 1) cap2) w2 := by
            refine ⟨by simp [hkt], by omega, by omega, ?_, ?_, ?_, ?_, ?_, hBX.same (hb2 B (by omega)), ?_, ?_, ?_, ?_, by omega⟩
            · have h := HS.out.ras
              rw [drop_cons' l k h1, show most.toNat - k = (most.toNat - (k + 1)) + 1 by omega] at h
              have h' := h.step HD.out
              rw [HE1.out, HE2.out]
              exact h'
            · have h := (hRF.alloc (.cells #[.int .u64 (U y)] 35)).tight hsz2 (fun b o hcb hblt => hg2.cell_far ⟨b, o, none⟩ hblt (fun ee => HS.out.cO b ee.symm hcb))
              have ez : (Z.alloc (.cells #[.int .u64 (U y)] 35)).heap.size = Z.heap.size + 1 := by simp
              rw [ez] at h
              exact h
            · rintro (⟨h, _⟩ | h)
              · exact HS.out.cB h
              · omega
            · rintro (⟨h, _⟩ | h)
              · exact HS.out.cR h
              · omega
            · intro g hg
              obtain rfl : g2 = g := by simpa [Value.ownBlock] using hg
              rintro (⟨h, hh⟩ | h)
              · rcases hl2 with h3 | h3
                · exact HS.out.cO g2 h3 h
                · omega
              · omega
            · rw [hb2 (B + 1) (by omega), hFR.block _ (heap_lt HCP.out) (.inr (Nat.le_refl _))]
              exact HCP.out
            · exact ((HS.out.res.ext HQ.out.ext).same (hFR.block _ lR (.inr (by omega)))).same (hb2 (B + 1 + 1) (by omega))
            · rw [List.length_append, List.map_append]
              exact hv2
            · refine (ext_alloc (.cells #[.int .u64 (U y)] 35) hXX).grown hg2 (by simp; have := hXX.size; omega) fun k hk => by have := HGB.out k hk; omega
          have HS2 := Lib.hid hS2
          clear hS2 hv2 hg2 hl2 hBX hRF hFR hXX hb2
          go_wp2
          exact ⟨⟨k + 1, _, _, _, _, by go_num, HS2.out⟩, by simp [intOf]; omega⟩
        · have hF : x = (M', ts, l.drop k) := by
            obtain ⟨h1', h2', h3'⟩ := HS.out.ras
            rw [drop_cons' l k h1, runF_no hd] at h1' h2' h3'
            rw [← hx.out, drop_cons' l k h1]
            exact Prod.ext h1' (Prod.ext (h2'.trans (List.append_nil _)) h3')
          have HFx := Lib.hid hF
          have hT := HEX.out
          have hU := usB_own HO.out
          have hRf := HS.out.ref.ext HQ.out.ext
          have hex := ext_set (p := ⟨B + 1 + 1, 2, none⟩) (.int .i64 M'.ct) (by show w.heap.size ≤ B + 1 + 1; omega) (ext_set (p := ⟨B + 1 + 1, 1, none⟩) (.slice R'.ea M'.n R'.ec) (by show w.heap.size ≤ B + 1 + 1; omega) (ext_set (p := ⟨B + 1 + 1, 0, none⟩) (.slice R'.wa M'.n R'.wc) (by show w.heap.size ≤ B + 1 + 1; omega) HEX.out))
          have hrf := ((hRf.setOut (.slice R'.wa M'.n R'.wc) (p := ⟨B + 1 + 1, 0, none⟩) HS.out.cR).setOut (.slice R'.ea M'.n R'.ec) (p := ⟨B + 1 + 1, 1, none⟩) HS.out.cR).setOut (.int .i64 M'.ct) (p := ⟨B + 1 + 1, 2, none⟩) HS.out.cR
          have hown := own_fr HO.out ((((Fr.refl (B + 1 + 1) (B + 3) T).set (p := ⟨B + 1 + 1, 0, none⟩) (.slice R'.wa M'.n R'.wc) (Nat.le_refl _) (by show B + 1 + 1 < B + 3; omega)).set (p := ⟨B + 1 + 1, 1, none⟩) (.slice R'.ea M'.n R'.ec) (Nat.le_refl _) (by show B + 1 + 1 < B + 3; omega)).set (p := ⟨B + 1 + 1, 2, none⟩) (.int .i64 M'.ct) (Nat.le_refl _) (by show B + 1 + 1 < B + 3; omega)) (Nat.le_refl _)
          have hbx := boxA_put (HS.out.res.ext HQ.out.ext) R' M'
          have HALL := Lib.hid (And.intro hex (And.intro hrf (And.intro hown hbx)))
          clear hF hT hU hRf hex hrf hown hbx hd e1 e2
          subst e3
          go_wp2
          go_region
          all_goals (try go_wp2)
          obtain ⟨hex, hrf, hown, hbx⟩ := HALL.out
          generalize (((T.setCell ⟨B + 1 + 1, 0, none⟩ (.slice R'.wa M'.n R'.wc)).setCell ⟨B + 1 + 1, 1, none⟩ (.slice R'.ea M'.n R'.ec)).setCell ⟨B + 1 + 1, 2, none⟩ (.int .i64 M'.ct)) = Z at hex hrf hown hbx ⊢
          rw [HFx.out]
          obtain ⟨z0, z1, z2, zz⟩ := hbx
          exact bodyPost_ret (v := .tuple #[u10, refV R' M']) (by simp [results, Try.results15, go_sem, refV, z0, z1, z2]) rfl ⟨u10, R', rfl, (usB_own hown).ext (ext_drew (ext_refl Z)), (hrf.mono fun _ _ => trivial).ext (ext_drew (ext_refl Z)), ext_drew hex⟩
      clear hK2
      have E1 : Hid (∀ (b0 : Nat → Prop) V, RefIn b0 R' M' V → Calls Try.prog 38 #[.agg #[.slice R'.wa M'.n R'.wc, .slice R'.ea M'.n R'.ec, .int .i64 M'.ct], .agg #[.int .i64 r, .int .u64 (U e)], .agg #[.int .i64 (aN l k).op, .int .i64 (aN l k).at_, .int .u64 (U (aN l k).a), .int .u64 (U (aN l k).b)]] V (RetRef b0 M2 #[.int .u64 (U y), .bool okb] V)) :=
        Lib.hid fun b0 V hV => rdo_any hV _ _ _ _ _ HSP.out
      refine wp_region_ways (fun x => ∃ s, x = over wr s) (by kernel_rfl) (over_of (ext_drew (ext_refl wr))) ?_
      refine ways_reads [0, 1, 2, 3, 4, 5] (by kernel_rfl) ?_
      simp only [pickL, List.map_cons, List.map_nil, List.getD_cons_zero, List.getD_cons_succ]
      repeat (go_big_quiet_step (fail))
      refine wpQuiet_nil ?_
      clear d0 d1 d2 d3 k0 k1 k2 kz p0 p1 r0 r1 r2 rz
      refine ways_fork 6 (by kernel_rfl) ?_ (ways_act 11 (by kernel_rfl) ?_)
      · simp only [pickL, List.map_cons, List.map_nil, List.getD_cons_zero, List.getD_cons_succ]
        go_wp2_with (go_at_call 38; refine (E1.out _ _ (HS.out.ref.ext (ext_drew (ext_refl wr)))).mono ?_; rintro e V ⟨R2, rfl, hr, hx⟩; have HR7 := Lib.hid hr; have HX7 := Lib.hid (ext_trans (ext_drew (ext_refl wr)) hx); clear hr hx; unfold refV)
        refine mixQ_mk (over_of HX7.out) (ways_reads [7, 8, 9, 10] (by kernel_rfl) ?_)
        simp only [pickL, List.map_cons, List.map_nil, List.getD_cons_zero, List.getD_cons_succ]
        repeat (go_big_quiet_step (fail))
        refine wpQuiet_nil (ways_act 11 (by kernel_rfl) ?_)
        simp only [pickL, List.map_cons, List.map_nil, List.getD_cons_zero, List.getD_cons_succ]
        go_wp2
        refine mixQ_mk (over_of (ext_alloc _ HX7.out)) (ways_act 12 (by kernel_rfl) ?_)
        simp only [pickL, List.map_cons, List.map_nil, List.getD_cons_zero, List.getD_cons_succ]
        go_wp2
        have HX8 := Lib.hid (ext_alloc (.cells #[.slice R2.wa M2.n R2.wc, .slice R2.ea M2.n R2.ec, .int .i64 M2.ct] 32) HX7.out)
        refine mixQ_mk (over_of HX8.out) (ways_reads [13, 14] (by kernel_rfl) ?_)
        simp only [pickL, List.map_cons, List.map_nil, List.getD_cons_zero, List.getD_cons_succ]
        repeat (go_big_quiet_step (fail))
        refine wpQuiet_nil (ways_end (by kernel_rfl) ?_)
        exact HAFTER V.heap.size R2 _ ⟨HR7.out.alloc _, (box_new V R2 M2 _).out, HX8.out⟩
      · simp only [pickL, List.map_cons, List.map_nil, List.getD_cons_zero, List.getD_cons_succ]
        go_wp2
        have HA2 := Lib.hid ((BoxA.new wr (.slice none 0 0) (.slice none 0 0) (.int .i64 0) 32).ext (ext_drew (ext_refl _)))
        have HY0 := Lib.hid (ext_drew (ext_alloc (.cells #[.slice none 0 0, .slice none 0 0, .int .i64 0] 32) (ext_refl wr)))
        have HR0 := Lib.hid ((HS.out.ref.avoid (.cells #[.slice none 0 0, .slice none 0 0, .int .i64 0] 32)).ext (ext_drew (ext_refl _)))
        have hge : wr.heap.size ≤ wr.heap.size := Nat.le_refl _
        refine mixQ_mk (over_of HY0.out) (ways_act 6 (by kernel_rfl) ?_)
        simp only [pickL, List.map_cons, List.map_nil, List.getD_cons_zero, List.getD_cons_succ]
        generalize (wr.alloc (.cells #[.slice none 0 0, .slice none 0 0, .int .i64 0] 32)).drew = Y0 at HA2 HY0 HR0 ⊢
        generalize hbd : wr.heap.size = bd at HA2 HR0 ⊢
        replace hge : wr.heap.size ≤ bd := by rw [hbd]; exact Nat.le_refl _
        clear hbd
        go_wp2_with (go_at_call 38; refine (E1.out _ _ HR0.out).mono ?_; rintro e V ⟨R2, rfl, hr, hx⟩; have HR7 := Lib.hid hr; have HX7 := Lib.hid (ext_trans HY0.out hx); have HA7 := Lib.hid (HA2.out.ext hx); clear hr hx HA2 HY0; unfold refV)
        refine mixQ_mk (over_of HX7.out) (ways_reads [7, 8, 9, 10] (by kernel_rfl) ?_)
        simp only [pickL, List.map_cons, List.map_nil, List.getD_cons_zero, List.getD_cons_succ]
        repeat (go_big_quiet_step (fail))
        refine wpQuiet_nil (ways_act 12 (by kernel_rfl) ?_)
        simp only [pickL, List.map_cons, List.map_nil, List.getD_cons_zero, List.getD_cons_succ]
        obtain ⟨p0, p1, p2, pz⟩ := HA7.out
        have l7 := cell_lt p0
        clear HR0 E1
        go_wp2
        have HX8 := Lib.hid (ext_set (.int .i64 M2.ct) (p := ⟨bd, 2, none⟩) hge (ext_set (.slice R2.ea M2.n R2.ec) (p := ⟨bd, 1, none⟩) hge (ext_set (.slice R2.wa M2.n R2.wc) (p := ⟨bd, 0, none⟩) hge HX7.out)))
        refine mixQ_mk (over_of HX8.out) (ways_reads [13, 14] (by kernel_rfl) ?_)
        simp only [pickL, List.map_cons, List.map_nil, List.getD_cons_zero, List.getD_cons_succ]
        repeat (go_big_quiet_step (fail))
        refine wpQuiet_nil (ways_end (by kernel_rfl) ?_)
        exact HAFTER bd R2 _ ⟨((((HR7.out.setOut (.slice R2.wa M2.n R2.wc) (p := ⟨bd, 0, none⟩) (fun h => h.2 rfl)).setOut (.slice R2.ea M2.n R2.ec) (p := ⟨bd, 1, none⟩) (fun h => h.2 rfl)).setOut (.int .i64 M2.ct) (p := ⟨bd, 2, none⟩) (fun h => h.2 rfl))).mono (b0 := c) (fun b h => h.1), boxA_put HA7.out R2 M2, HX8.out⟩
    · have hE : runF r e (l.drop k) (most.toNat - k) M' = (M', [], l.drop k) := by
        by_cases h1 : k < l.length
        · rw [show most.toNat - k = 0 by omega]
          exact runF_zero _ _ _ _
        · rw [List.drop_eq_nil_of_le (by omega), runF]
      have hF : x = (M', ts, l.drop k) := by
        obtain ⟨h1', h2', h3'⟩ := HS.out.ras
        rw [hE] at h1' h2' h3'
        rw [← hx.out]
        exact Prod.ext h1' (Prod.ext (h2'.trans (List.append_nil _)) h3')
      have HFx := Lib.hid hF
      have hex := ext_set (p := ⟨B + 1 + 1, 2, none⟩) (.int .i64 M'.ct) (by show w.heap.size ≤ B + 1 + 1; omega) (ext_set (p := ⟨B + 1 + 1, 1, none⟩) (.slice R'.ea M'.n R'.ec) (by show w.heap.size ≤ B + 1 + 1; omega) (ext_set (p := ⟨B + 1 + 1, 0, none⟩) (.slice R'.wa M'.n R'.wc) (by show w.heap.size ≤ B + 1 + 1; omega) HS.out.ext))
      have hrf := ((HS.out.ref.setOut (.slice R'.wa M'.n R'.wc) (p := ⟨B + 1 + 1, 0, none⟩) HS.out.cR).setOut (.slice R'.ea M'.n R'.ec) (p := ⟨B + 1 + 1, 1, none⟩) HS.out.cR).setOut (.int .i64 M'.ct) (p := ⟨B + 1 + 1, 2, none⟩) HS.out.cR
      have hown := own_fr HS.out.own ((((Fr.refl (B + 1 + 1) (B + 3) wr).set (p := ⟨B + 1 + 1, 0, none⟩) (.slice R'.wa M'.n R'.wc) (Nat.le_refl _) (by show B + 1 + 1 < B + 3; omega)).set (p := ⟨B + 1 + 1, 1, none⟩) (.slice R'.ea M'.n R'.ec) (Nat.le_refl _) (by show B + 1 + 1 < B + 3; omega)).set (p := ⟨B + 1 + 1, 2, none⟩) (.int .i64 M'.ct) (Nat.le_refl _) (by show B + 1 + 1 < B + 3; omega)) (Nat.le_refl _)
      have hbx := boxA_put HS.out.res R' M'
      have HALL := Lib.hid (And.intro hex (And.intro hrf (And.intro hown hbx)))
      clear hF hex hrf hown hbx hE
      by_cases h1 : k < l.length
      · have h2 : ¬ ((k : Int) < most) := fun h => hlt ⟨h1, h⟩
        clear hlt
        go_wp2
        go_region
        all_goals (try go_wp2)
        obtain ⟨hex, hrf, hown, hbx⟩ := HALL.out
        generalize (((wr.setCell ⟨B + 1 + 1, 0, none⟩ (.slice R'.wa M'.n R'.wc)).setCell ⟨B + 1 + 1, 1, none⟩ (.slice R'.ea M'.n R'.ec)).setCell ⟨B + 1 + 1, 2, none⟩ (.int .i64 M'.ct)) = Z at hex hrf hown hbx ⊢
        rw [HFx.out]
        obtain ⟨z0, z1, z2, zz⟩ := hbx
        exact bodyPost_ret (v := .tuple #[u10, refV R' M']) (by simp [results, Try.results15, go_sem, refV, z0, z1, z2]) rfl ⟨u10, R', rfl, (usB_own hown).ext (ext_drew (ext_refl Z)), (hrf.mono fun _ _ => trivial).ext (ext_drew (ext_refl Z)), ext_drew hex⟩
      · have h2 : ¬ ((k : Int) < (l.length : Int)) := by omega
        clear hlt
        go_wp2
        go_region
        all_goals (try go_wp2)
        obtain ⟨hex, hrf, hown, hbx⟩ := HALL.out
        generalize (((wr.setCell ⟨B + 1 + 1, 0, none⟩ (.slice R'.wa M'.n R'.wc)).setCell ⟨B + 1 + 1, 1, none⟩ (.slice R'.ea M'.n R'.ec)).setCell ⟨B + 1 + 1, 2, none⟩ (.int .i64 M'.ct)) = Z at hex hrf hown hbx ⊢
        rw [HFx.out]
        obtain ⟨z0, z1, z2, zz⟩ := hbx
        exact bodyPost_ret (v := .tuple #[u10, refV R' M']) (by simp [results, Try.results15, go_sem, refV, z0, z1, z2]) rfl ⟨u10, R', rfl, (usB_own hown).ext (ext_drew (ext_refl Z)), (hrf.mono fun _ _ => trivial).ext (ext_drew (ext_refl Z)), ext_drew hex⟩

end Go.Proofs.Ytmianpfomoghjaa
