/-
  The law FreeTags, walked. Conditions: those of each theorem.
-/
import Derived.Test.YtpidmbclgfnekaaGax
import Derived.Deep.Cut
namespace Go.Proofs.Ytpidmbclgfnekaa
open Go Go.RowKit

theorem w64 (n : Nat) (h : n ≤ 60) : wrap64 ((n : Int) + 1) = ((n + 1 : Nat) : Int) := by
  unfold wrap64
  omega
theorem t43 (n : Nat) (h : n ≤ 60) : n < 8796093022207 := by omega
def TagRel (p : Pl) (lo hi : Nat) (L : Lay) (base : Nat) (w0 : World) (ps : List Bool) (vd vm vi : Value) (wr : World) : Prop :=
  ∃ (i : Nat) (M : MS) (l : List Int) (T : Nat) (mine : List Int), vd = .int .i64 (T : Int) ∧ vi = .int .i64 (i : Int) ∧ T ≤ i ∧ i ≤ ps.length ∧ FIn p lo hi L base w0 M l T mine vm wr
end Go.Proofs.Ytpidmbclgfnekaa

/-
  What the law's apart comes to, of threads whose nodes are each had once. Conditions: those of each theorem.
-/
namespace Go.Proofs.Ytpidmbclgfnekaa
open Go Go.RowKit

/-- The nodes that are seen: D. -/
def SeenIn (n : Nat) (D : List Int) (g : Nat) (w : World) : Prop := ∃ cs, w.heap[g]? = some (.cells cs 4 (0, 0)) ∧ n ≤ cs.size ∧ ∀ j, j < n → cs[j]? = some (.bool (decide ((j : Int) ∈ D)))
theorem SeenIn.ext {n : Nat} {D : List Int} {g : Nat} {w w' : World} (h : SeenIn n D g w) (hx : Ext w w') : SeenIn n D g w' := by
  obtain ⟨cs, h1, h2⟩ := h
  exact ⟨cs, (hx.block _ (heap_lt h1)).trans h1, h2⟩
theorem SeenIn.set {n : Nat} {D : List Int} {g : Nat} {w : World} (h : SeenIn n D g w) (m : Nat) (hm : m < n) : SeenIn n (D ++ [(m : Int)]) g (w.setCell ⟨g, m, none⟩ (.bool true)) := by
  obtain ⟨cs, h1, h2, h3⟩ := h
  refine ⟨_, set_same (o := m) _ h1, by simpa using h2, fun j hj => ?_⟩
  by_cases e : j = m
  · subst e
    rw [Array.getElem?_setIfInBounds_self_of_lt (by omega)]
    simp
  · rw [Array.getElem?_setIfInBounds_ne (fun h => e h.symm), h3 j hj]
    have : ¬ ((j : Int) = (m : Int)) := by omega
    simp [this]
/-- Rows of nodes, by pointers to what has them at its cell 11. -/
def RowsAt (w : World) (bl ol : Nat) (ms : List (List Int)) : Prop := ∀ i, i < ms.length → ∃ B v, w.cell? ⟨bl, ol + i, none⟩ = some (.pointer (some ⟨B, 0, none⟩)) ∧ w.cell? ⟨B, 11, none⟩ = some v ∧ Is w v (ms.getD i [])
theorem RowsAt.ext {w w' : World} {bl ol : Nat} {ms : List (List Int)} (h : RowsAt w bl ol ms) (hx : Ext w w') : RowsAt w' bl ol ms := fun i hi => by
  obtain ⟨B, v, h1, h2, h3⟩ := h i hi
  exact ⟨B, v, ext_cell hx h1, ext_cell hx h2, h3.ext hx⟩
def OutRel (n : Nat) (ms : List (List Int)) (g : Nat) (w : World) (vi : Value) (wr : World) : Prop := ∃ i : Nat, vi = .int .i64 (i : Int) ∧ i ≤ ms.length ∧ Ext w wr ∧ SeenIn n (ms.take i).flatten g wr
def InRel (n : Nat) (ms : List (List Int)) (i : Nat) (g : Nat) (w : World) (vk : Value) (wr : World) : Prop := ∃ k : Nat, vk = .int .i64 (k : Int) ∧ k ≤ (ms.getD i []).length ∧ Ext w wr ∧ SeenIn n ((ms.take i).flatten ++ (ms.getD i []).take k) g wr
theorem Try.infoBool : (Try.prog.info? 4).map (fun i => (i.zero, i.size, i.bytes)) = some (some (.bool false), 1, 1) := by kernel_rfl
theorem infoB : ∃ i, Try.prog.info? 4 = some i ∧ i.zero = some (.bool false) ∧ i.size = 1 ∧ i.bytes = 1 := by
  have h := Try.infoBool
  cases hi : Try.prog.info? 4 with
  | none => rw [hi] at h; cases h
  | some i =>
    rw [hi] at h
    simp at h
    exact ⟨i, rfl, h.1, h.2.1, h.2.2⟩
theorem made_seen {w : World} {base g n : Nat} (h : w.ownsRow base 4 1 (.slice (some ⟨g, 0, none⟩) n n) n (madeCells (Value.bool false).cells (n * 1)).toList) : SeenIn n [] g w := by
  rcases h.2 with ⟨h1, _⟩ | ⟨g', cap, cur, h1, _, hh, _, _, hs, ht⟩
  · cases h1
  · simp at h1
    obtain ⟨rfl, rfl⟩ := h1
    refine ⟨cur, hh, by omega, fun j hj => ?_⟩
    have e1 : (madeCells (Value.bool false).cells n).toList = List.replicate n (Value.bool false) := toList_madeCells_one _ _
    rw [Nat.mul_one, e1] at ht
    have h3 : (cur.toList.take n)[j]? = (List.replicate n (Value.bool false))[j]? := by rw [ht]
    rw [List.getElem?_take, if_pos hj, List.getElem?_replicate, if_pos hj] at h3
    rw [← Array.getElem?_toList, h3]
    simp
theorem w64n (n : Nat) (h : n ≤ 2000000) : wrap64 ((n : Int) + 1) = ((n + 1 : Nat) : Int) := by
  unfold wrap64
  omega
set_option maxRecDepth 8000 in
set_option maxHeartbeats 2000000 in
theorem apart_yes (n : Nat) (hn1 : 1 ≤ n) (hn : n ≤ 1048576) (ms : List (List Int)) (bl ol cap : Nat) (w : World) (hR : RowsAt w bl ol ms) (hl : ms.length ≤ 60) (hnd : ms.flatten.Nodup) (hrg : ∀ m ∈ ms.flatten, 0 ≤ m ∧ m < (n : Int)) :
    Calls Try.prog 9 #[.slice (some ⟨bl, ol, none⟩) ms.length cap, .int .i64 (n : Int)] w (Ret (.bool true) w) := by
  have HR := Lib.hid hR
  have HND := Lib.hid hnd
  have HRG := Lib.hid hrg
  clear hR hnd hrg
  obtain ⟨iU, hiU, hy0, hy1, hy2⟩ := infoB
  go_enter Try.func9, Try.ntmps9
  go_wp2_with (at_make; refine wpList_make_full _ rfl (.tmp 9) (.tmp 9) 31 rfl w.heap.size 4 iU (.bool false) 1 Try.underlying31 hiU hy0 hy1 .i64 .i64 (n : Int) (n : Int) n rfl rfl (by omega) (by omega) (by rw [hy2]; omega) (by unfold maxLen; omega) (Nat.le_refl _) ?_; intro w1 ho1 hg1; have HX1 := Lib.hid (ext_grown00 (ext_refl w) hg1); have HS1 := Lib.hid (made_seen ho1); clear ho1 hg1)
  go_loopw [6] (fun vi wr => OutRel n ms w.heap.size w vi wr) (fun i _ => (ms.length - intOf i).toNat)
  case atStart => exact ⟨0, rfl, Nat.zero_le _, HX1.out, by simpa using HS1.out⟩
  case round =>
    obtain ⟨i, rfl, hil, hX, hS⟩ := hrel
    have HX := Lib.hid hX
    have HS := Lib.hid hS
    clear hX hS HS1 HX1
    by_cases hlt : i < ms.length
    · have hlt' : (i : Int) < ms.length := by omega
      have e1 := Lib.hid (w64 i (by omega))
      obtain ⟨row, hrow⟩ : ∃ r, Hid (ms.getD i [] = r) := ⟨_, Lib.hid rfl⟩
      have hfl : (ms.take (i + 1)).flatten = (ms.take i).flatten ++ row := by
        rw [← hrow.out, List.take_succ_eq_append_getElem hlt, List.flatten_append]
        simp [List.getD_eq_getElem?_getD, hlt]
      have hsub : ∀ m ∈ (ms.take i).flatten ++ row, m ∈ ms.flatten := fun m hm => by
        rw [← hfl] at hm
        obtain ⟨r, hr, hm⟩ := List.mem_flatten.1 hm
        exact List.mem_flatten.2 ⟨r, List.mem_of_mem_take hr, hm⟩
      have hnod : ((ms.take i).flatten ++ row).Nodup := by
        rw [← hfl]
        refine List.Nodup.sublist ?_ HND.out
        have : ms.flatten = (ms.take (i + 1)).flatten ++ (ms.drop (i + 1)).flatten := by rw [← List.flatten_append, List.take_append_drop]
        rw [this]
        exact List.sublist_append_left _ _
      have HFL := Lib.hid hfl
      have HSUB := Lib.hid hsub
      have HNOD := Lib.hid hnod
      have hrl : (row.length : Int) ≤ n := by
        have h1 := nodup_len row (rfr n 0) (List.nodup_append.1 hnod).2.1 fun m hm => by
          have := HRG.out m (hsub m (by simp [hm]))
          exact rfr_mem.2 ⟨this.1, by omega⟩
        rw [rfr_len] at h1
        omega
      clear hfl hsub hnod
      go_wp2
      go_loopw [7] (fun vk wr => InRel n ms i w.heap.size w vk wr) (fun k _ => (row.length - intOf k).toNat)
      case atStart => exact ⟨0, rfl, Nat.zero_le _, HX.out, by simpa using HS.out⟩
      case round =>
        obtain ⟨k, rfl, hkl, hX2, hS2⟩ := hrel
        rw [hrow.out] at hkl hS2
        obtain ⟨B, v, d1, d2, d3⟩ := (HR.out.ext hX2) i hlt
        rw [hrow.out] at d3
        have HX2 := Lib.hid hX2
        have HS2 := Lib.hid hS2
        have HI := Lib.hid d3
        have hb1 := cell_lt d1
        have hb2 := cell_lt d2
        obtain ⟨a0, vc, rfl, _, _⟩ := d3
        have hs2 := hX2.size
        clear hX2 hS2 HX HS
        by_cases hk : k < row.length
        · have hk' : (k : Int) < row.length := by omega
          obtain ⟨b3, o3, rfl, hb3, hc3⟩ := HI.out.at (by omega)
          have d4 := hc3 k hk
          have e2 := Lib.hid (w64n k (by omega))
          have hmem : iN row k ∈ row := mem_iN.2 ⟨k, hk, rfl⟩
          obtain ⟨hm0, hm1⟩ := HRG.out _ (HSUB.out _ (List.mem_append.2 (.inr hmem)))
          obtain ⟨m, hm⟩ : ∃ m : Nat, iN row k = (m : Int) := ⟨(iN row k).toNat, by omega⟩
          have htk : row.take (k + 1) = row.take k ++ [(m : Int)] := by
            rw [List.take_succ_eq_append_getElem hk, ← hm]
            simp [iN, List.getD_eq_getElem?_getD, hk]
          have hnew : (m : Int) ∉ (ms.take i).flatten ++ row.take k := fun hin => by
            have h1 : ((ms.take i).flatten ++ row.take (k + 1)).Nodup := by
              refine List.Nodup.sublist ?_ HNOD.out
              exact List.Sublist.append (List.Sublist.refl _) (List.take_sublist _ _)
            rw [htk, ← List.append_assoc] at h1
            exact (List.nodup_append.1 h1).2.2 _ hin _ (by simp) rfl
          rw [hm] at d4 hm1
          have hmn : m < n := by omega
          obtain ⟨cs, q1, q2, q3⟩ := HS2.out
          have q4 := q3 m hmn
          rw [decide_eq_false hnew] at q4
          have q5 := cell_at q1 q4
          have q6 := free_at (o := m) q1
          have hgl := heap_lt q1
          have HS3 := Lib.hid (HS2.out.set m hmn)
          have HTK := Lib.hid htk
          clear hc3 htk hnew q1 q3 q4 hm0 hmem hm
          have hmi : (m : Int) < (n : Int) := by omega
          go_wp2
          exact ⟨⟨k + 1, by first | exact congrArg _ e2.out | rfl, by rw [hrow.out]; omega, ext_set _ (Nat.le_refl _) HX2.out, by rw [hrow.out, HTK.out, ← List.append_assoc]; exact HS3.out⟩, by simp [intOf]; omega⟩
        · have hk' : ¬ (k : Int) < row.length := by omega
          have hke : row.take k = row := List.take_of_length_le (by omega)
          rw [hke] at HS2
          go_wp2
          exact ⟨⟨i + 1, by first | exact congrArg _ e1.out | rfl, by omega, HX2.out, by rw [HFL.out]; exact HS2.out⟩, by simp [intOf]; omega⟩
    · have hlt' : ¬ (i : Int) < ms.length := by omega
      go_wp2
      go_ret
      exact Ret.mk HX.out
end Go.Proofs.Ytpidmbclgfnekaa

/-
  All threads of the law FreeMany in memory, and a pick of one of them. Conditions: those of each theorem.
-/
namespace Go.Proofs.Ytpidmbclgfnekaa
open Go Go.RowKit

/-- A pick of a thread, whatever it is at. -/
theorem pick_any {p : Pl} {lo hi base B K : Nat} {L : Lay} {M : MS} {l : List Int} {T : Nat} {us vs : List TS} {t : TS} {F : Nat → Prop} {vp vm : Value} {y : Int} {a : Acc} {fn : Value} {w : World} (hp : p.ok) (hps : Bs w vp t.ps) (h : TIn p lo hi base B t F vp vm y a fn w) (hM : MemIn lo hi L M w) (hG : GIn p M l T (us ++ t :: vs)) (hT : T < 8796093022207) (hB : hi ≤ B) (hBb : B < base) (hbs : base ≤ w.heap.size) (hK : t.busy = true → K + 1 ≤ t.N) (hK8 : (t.at_ : Int) ≤ 1000000) :
    Calls Try.prog 8 #[.pointer (some ⟨B, 0, none⟩), plV p, .pointer (some ⟨L.bm, 0, none⟩)] w (RetPk p lo hi base B K L M T us vs t F vp vm w) := by
  cases hb : t.busy with
  | true =>
    cases hq : t.pop with
    | true => exact pick_atPop hp hps h hM hG hT hB hBb hbs hb hq (hK hb)
    | false => exact pick_atPush hp hps h hM hG hT hB hBb hbs hb hq (hK hb)
  | false =>
    have hle := (hG.ok t (by simp)).at_
    by_cases hl : t.at_ = t.ps.length
    · exact pick_through hp hps h hM hG hT hB hBb hbs hb hl
    · have hl2 : t.at_ < t.ps.length := by omega
      cases hv : bN t.ps t.at_ with
      | true => exact pick_newPop hp hps h hM hG hT hB hBb hbs hK8 hb hl2 hv
      | false =>
        rcases List.eq_nil_or_concat t.mine with hm | ⟨rest, n, hm⟩
        · exact pick_skip hp hps h hM hG hT hB hBb hbs hK8 hb hl2 hv hm
        · exact pick_newPush hp hps h hM hG hT hB hBb hbs hK8 hb hl2 hv (rest := rest) (n := n) (by rw [hm]; simp)
def tsD : TS := ⟨[], 0, false, false, .pl, 0, []⟩
def tsN (ts : List TS) (i : Nat) : TS := ts.getD i tsD
theorem tsN_mem {ts : List TS} {i : Nat} (h : i < ts.length) : tsN ts i ∈ ts := by
  have : tsN ts i = ts[i] := by simp [tsN, List.getD_eq_getElem?_getD, h]
  rw [this]
  exact List.getElem_mem h
theorem ts_split {ts : List TS} {k : Nat} (h : k < ts.length) : ts.take k ++ tsN ts k :: ts.drop (k + 1) = ts := by
  have : tsN ts k = ts[k] := by simp [tsN, List.getD_eq_getElem?_getD, h]
  rw [this, ← List.drop_eq_getElem_cons h, List.take_append_drop]
theorem ts_set {ts : List TS} {k : Nat} (h : k < ts.length) (t : TS) : ts.take k ++ t :: ts.drop (k + 1) = ts.set k t := (List.set_eq_take_append_cons_drop ..).symm ▸ by rw [if_pos h]
theorem tsN_set_same {ts : List TS} {k : Nat} (h : k < ts.length) (t : TS) : tsN (ts.set k t) k = t := by simp [tsN, List.getD_eq_getElem?_getD, h]
theorem tsN_set_other {ts : List TS} {k i : Nat} (h : i ≠ k) (t : TS) : tsN (ts.set k t) i = tsN ts i := by
  simp [tsN, List.getD_eq_getElem?_getD, List.getElem?_set_ne (fun e => h e.symm)]
/-- A thread in its block: by the footprint F, its row in the block g. -/
def ThAt (p : Pl) (lo hi base : Nat) (w0 : World) (B : Nat) (t : TS) (F : Nat → Prop) (g : Option Nat) (wr : World) : Prop :=
  ∃ vp vm y a fn, TIn p lo hi base B t F vp vm y a fn wr ∧ Bs w0 vp t.ps ∧ vm.ownBlock = g
/-- All threads, the list, the memory. -/
structure LwIn (p : Pl) (lo hi base bl ol n : Nat) (L : Lay) (w : World) (Bf : Nat → Nat) (M : MS) (l : List Int) (T : Nat) (ts : List TS) (Ff : Nat → Nat → Prop) (gf : Nat → Option Nat) (wr : World) : Prop where
  m : MemIn lo hi L M wr
  g : GIn p M l T ts
  ex : Ext w wr
  pb : PBox w.heap.size p wr
  sz : base ≤ wr.heap.size
  ln : ts.length = n
  row : ∀ i, i < n → wr.cell? ⟨bl, ol + i, none⟩ = some (.pointer (some ⟨Bf i, 0, none⟩))
  th : ∀ i, i < n → ThAt p lo hi base w (Bf i) (tsN ts i) (Ff i) (gf i) wr
  sF : ∀ i k, i < n → k < n → i ≠ k → ¬ Ff i (Bf k) ∧ ∀ j, gf k = some j → ¬ Ff i j
  sG : ∀ i k, i < n → k < n → i ≠ k → ∀ j, gf i = some j → gf k ≠ some j
/-- What does not turn: where the blocks are. -/
structure LwAt (lo hi base bl n : Nat) (w : World) (Bf : Nat → Nat) : Prop where
  lo1 : w.heap.size < lo
  bl1 : hi ≤ bl ∧ bl < base
  b1 : ∀ i, i < n → hi ≤ Bf i ∧ Bf i < base ∧ Bf i ≠ bl
  inj : ∀ i k, i < n → k < n → Bf i = Bf k → i = k
  lh : lo ≤ hi
theorem IR.own_lt {base : Nat} {v : Value} {l : List Int} {w : World} (h : IR base v l w) {g : Nat} (hg : v.ownBlock = Option.some g) : base ≤ g ∧ g < w.heap.size := by
  obtain ⟨h1, cur, h2⟩ := h.own hg
  exact ⟨h1, heap_lt h2⟩
/-- A thread is left alone by a pick of another one. -/
theorem ThAt.keep {p : Pl} {lo hi base : Nat} {w0 : World} {B : Nat} {t : TS} {F : Nat → Prop} {g : Option Nat} {w w' : World} {B' : Nat} {g' : Option Nat} (h : ThAt p lo hi base w0 B t F g w) (hf : FrP lo hi B' g' w w') (hB : hi ≤ B) (hBb : B < base) (_ : hi ≤ base) (h1 : B ≠ B') (hB' : B' < base) (h2 : ∀ j, g' = some j → base ≤ j) (h3 : ¬ F B') (h4 : ∀ j, g' = some j → ¬ F j) (h5 : ∀ j, g = some j → g' ≠ some j) : ThAt p lo hi base w0 B t F g w' := by
  obtain ⟨vp, vm, y, a, fn, hT, hps, hg⟩ := h
  have hag : Agr F w w' := fun j hj => hf.block j (hT.bn j hj) (hT.of j hj).1 (fun e => h3 (e ▸ hj)) (fun e => h4 j e hj)
  refine ⟨vp, vm, y, a, fn, ⟨?_, hT.row.keep fun k hk => ?_, hT.nb, hT.hfn, fun hb => (hT.pt hb).agr hag, hT.bn.ext hf.size, hT.of⟩, hps, hg⟩
  · exact (hf.block B hT.blk.lt (.inr hB) h1 fun e => by have := h2 B e; omega).trans hT.blk
  · obtain ⟨h6, h7⟩ := hT.row.own_lt hk
    exact hf.block k h7 (.inr (by omega)) (by omega) (h5 k (hg ▸ hk))
/-- A thread that is through. -/
def TS.thr (t : TS) : Prop := t.busy = false ∧ t.at_ = t.ps.length
/-- What a pick of the k-th thread comes to. -/
def RetLw (p : Pl) (lo hi base bl ol n : Nat) (L : Lay) (w : World) (Bf : Nat → Nat) (K : Nat) (M : MS) (T : Nat) (ts : List TS) (k : Nat) (e : Ending) (w' : World) : Prop :=
  ∃ M' l' T' t' Ff' gf', e = .returned (.bool true) ∧ LwIn p lo hi base bl ol n L w Bf M' l' T' (ts.set k t') Ff' gf' w' ∧ T' ≤ T + 1 ∧ (t'.mu M' < (tsN ts k).mu M ∨ (t' = tsN ts k ∧ M' = M ∧ (tsN ts k).thr)) ∧ (t'.busy = true → K ≤ t'.N) ∧ t'.ps = (tsN ts k).ps
theorem lw_pick {p : Pl} (hp : p.ok) {lo hi base bl ol n : Nat} {L : Lay} {w : World} {Bf : Nat → Nat} {M : MS} {l : List Int} {T : Nat} {ts : List TS} {Ff : Nat → Nat → Prop} {gf : Nat → Option Nat} {wr : World} (hA : LwAt lo hi base bl n w Bf) (h : LwIn p lo hi base bl ol n L w Bf M l T ts Ff gf wr) {k K : Nat} (hk : k < n) (hT : T < 8796093022207) (hK : (tsN ts k).busy = true → K + 1 ≤ (tsN ts k).N) (hat : (tsN ts k).ps.length ≤ 12) :
    Calls Try.prog 8 #[.pointer (some ⟨Bf k, 0, none⟩), plV p, .pointer (some ⟨L.bm, 0, none⟩)] wr (RetLw p lo hi base bl ol n L w Bf K M T ts k) := by
  obtain ⟨vp, vm, y, a, fn, hTk, hps, hg⟩ := h.th k hk
  obtain ⟨hb1, hb2, hb3⟩ := hA.b1 k hk
  have hkl : k < ts.length := by rw [h.ln]; exact hk
  have hGk : GIn p M l T (ts.take k ++ tsN ts k :: ts.drop (k + 1)) := by rw [ts_split hkl]; exact h.g
  have hle := (h.g.ok (tsN ts k) (tsN_mem hkl)).at_
  have hhb : hi ≤ base := Nat.le_of_lt (Nat.lt_of_le_of_lt hA.bl1.1 hA.bl1.2)
  refine (pick_any (K := K) hp (hps.ext h.ex) hTk h.m hGk hT hb1 hb2 h.sz hK (by omega)).mono ?_
  rintro e w' ⟨M', l', T', t', F', vm', y', a', fn', rfl, hM', hG', hT', hTi, hsub, hfr, hrw, hmu, hN, hpse⟩
  rw [ts_set hkl] at hG'
  have hgb : ∀ j, vm.ownBlock = some j → base ≤ j ∧ j < wr.heap.size := fun j hj => hTk.row.own_lt hj
  have hws : w.heap.size ≤ wr.heap.size := h.ex.size
  have hlo := hA.lo1
  have hlh := hA.lh
  refine ⟨M', l', T', t', fun i => if i = k then F' else Ff i, fun i => if i = k then vm'.ownBlock else gf i, rfl, ⟨hM', hG', ?_, ?_, Nat.le_trans h.sz hfr.size, by rw [List.length_set]; exact h.ln, fun i hi => ?_, fun i hi => ?_, fun i j hi hj hij => ?_, fun i j hi hj hij x hx => ?_⟩, hT', ?_, hN, hpse⟩
  · exact ⟨hfr.os.trans h.ex.os, hfr.tape.trans h.ex.tape, hfr.output.trans h.ex.output, Nat.le_trans hws hfr.size, fun j hj => (hfr.block j (by omega) (.inl (by omega)) (by omega) fun e => by have := (hgb j e).1; omega).trans (h.ex.block j hj)⟩
  · exact (hfr.block _ (heap_lt h.pb) (.inl hlo) (by omega) fun e => by have := (hgb _ e).1; omega).trans h.pb
  · have hc := h.row i hi
    have hlt := cell_lt hc
    have hbk : w'.heap[bl]? = wr.heap[bl]? := hfr.block bl hlt (.inr hA.bl1.1) (fun e => hb3 e.symm) fun e => by have := (hgb bl e).1; have := hA.bl1.2; omega
    rw [← hc]
    simp [World.cell?, hbk]
  · by_cases e : i = k
    · subst e
      simp only [if_true]
      rw [tsN_set_same hkl]
      exact ⟨vp, vm', y', a', fn', hTi, by rw [hpse]; exact hps, rfl⟩
    · simp only [if_neg e]
      rw [tsN_set_other e]
      obtain ⟨c1, c2, c3⟩ := hA.b1 i hi
      have hs := h.sF i k hi hk e
      have hs2 := h.sG i k hi hk e
      rw [← hg] at hs hs2
      exact (h.th i hi).keep hfr c1 c2 hhb (fun e2 => e (hA.inj i k hi hk e2)) hb2 (fun j hj => (hgb j hj).1) hs.1 hs.2 hs2
  · have hnew : ∀ i, i < n → i ≠ k → ∀ j, F' j → j ≠ Bf i ∧ gf i ≠ some j := fun i hi hik j hj => by
      rcases hsub j hj with h1 | h1
      · have := h.sF k i hk hi (fun e => hik e.symm)
        exact ⟨fun e => this.1 (e ▸ h1), fun e => this.2 j e h1⟩
      · have hbi := (hA.b1 i hi).2.1
        have := h.sz
        refine ⟨by omega, fun e => ?_⟩
        obtain ⟨vp2, vm2, y2, a2, fn2, hT2, _, hg2⟩ := h.th i hi
        have := (hT2.row.own_lt (hg2.trans e)).2
        omega
    by_cases ei : i = k
    · subst ei
      simp only [if_true, if_neg (fun e : j = i => hij e.symm)]
      exact ⟨fun hf => (hnew j hj (fun e => hij e.symm) _ hf).1 rfl, fun x hx hf => (hnew j hj (fun e => hij e.symm) x hf).2 hx⟩
    · simp only [if_neg ei]
      by_cases ej : j = k
      · subst ej
        simp only [if_true]
        have hs := h.sF i j hi hj hij
        refine ⟨hs.1, fun x hx hf => ?_⟩
        rcases hrw with h1 | ⟨g, h1, h2⟩
        · exact hs.2 x (by rw [← hg, ← h1]; exact hx) hf
        · rw [h1] at hx
          cases hx
          obtain ⟨vp2, vm2, y2, a2, fn2, hT2, _, _⟩ := h.th i hi
          have := hT2.bn _ hf
          omega
      · simp only [if_neg ej]
        exact h.sF i j hi hj hij
  · have hother : ∀ i, i < n → i ≠ k → ∀ x, gf i = some x → vm'.ownBlock ≠ some x := fun i hi hik x hx e => by
      rcases hrw with h1 | ⟨g, h1, h2⟩
      · exact h.sG i k hi hk hik x hx (by rw [← hg, ← h1]; exact e)
      · rw [h1] at e
        cases e
        obtain ⟨vp2, vm2, y2, a2, fn2, hT2, _, hg2⟩ := h.th i hi
        have := (hT2.row.own_lt (hg2.trans hx)).2
        omega
    by_cases ei : i = k
    · subst ei
      simp only [if_true] at hx
      simp only [if_neg (fun e : j = i => hij e.symm)]
      exact fun e => hother j hj (fun e => hij e.symm) x e hx
    · simp only [if_neg ei] at hx
      by_cases ej : j = k
      · subst ej
        simp only [if_true]
        exact hother i hi hij x hx
      · simp only [if_neg ej]
        exact h.sG i j hi hj hij x hx
  · rcases hmu with h1 | ⟨h1, h2, h3, h4⟩
    · exact .inl h1
    · exact .inr ⟨h1, h2, h3, h4⟩
end Go.Proofs.Ytpidmbclgfnekaa

/-
  The law FreeMany in plain numbers: so many picks of each thread alone end it; then each node is had once, or in the list. Conditions: those of each theorem.
-/
namespace Go.Proofs.Ytpidmbclgfnekaa
open Go Go.RowKit

theorem TS.thr.mu {t : TS} (h : t.thr) (M : MS) : t.mu M = 0 := by
  unfold TS.mu
  rw [h.1, h.2]
  simp
/-- Behind i picks, of which m were free. -/
structure LwPh (m n i : Nat) (M : MS) (T : Nat) (ts : List TS) : Prop where
  ln : ts.length = n
  tt : T ≤ i
  nb : ∀ t ∈ ts, t.busy = true → 700 ≤ t.N + i
  le : ∀ t ∈ ts, t.ps.length ≤ 12
  ph : ∀ j, j < n → m + 100 * (j + 1) ≤ i → (tsN ts j).thr
  cur : ∀ j, j < n → m + 100 * j ≤ i → i ≤ m + 100 * (j + 1) → (tsN ts j).thr ∨ (tsN ts j).mu M + (i - (m + 100 * j)) ≤ 41
theorem tsN_le {ts : List TS} (h : ∀ t ∈ ts, t.ps.length ≤ 12) (j : Nat) : (tsN ts j).ps.length ≤ 12 := by
  by_cases hj : j < ts.length
  · exact h _ (tsN_mem hj)
  · have : tsN ts j = tsD := by simp [tsN, List.getD_eq_getElem?_getD, List.getElem?_eq_none (Nat.le_of_not_lt hj)]
    rw [this]
    exact Nat.zero_le _
theorem LwPh.step {m n i : Nat} {M M' : MS} {T T' : Nat} {ts : List TS} {k : Nat} {t' : TS} (h : LwPh m n i M T ts) (hi : i < m + 400) (hm : m ≤ 200) (hk : k < n) (hck : m ≤ i → (i - m) / 100 < n → k = (i - m) / 100) (hT : T' ≤ T + 1)
    (hmu : t'.mu M' < (tsN ts k).mu M ∨ (t' = tsN ts k ∧ M' = M ∧ (tsN ts k).thr)) (hN : t'.busy = true → 699 - i ≤ t'.N) (hps : t'.ps = (tsN ts k).ps) : LwPh m n (i + 1) M' T' (ts.set k t') := by
  have hkl : k < ts.length := by rw [h.ln]; exact hk
  have hle : ∀ t ∈ ts.set k t', t.ps.length ≤ 12 := fun t ht => by
    rcases List.mem_or_eq_of_mem_set ht with ht | rfl
    · exact h.le t ht
    · rw [hps]
      exact tsN_le h.le k
  have hthr : ∀ j, (tsN ts j).thr → (tsN (ts.set k t') j).thr := fun j hj => by
    by_cases e : j = k
    · subst e
      rw [tsN_set_same hkl]
      rcases hmu with h1 | ⟨h1, _, _⟩
      · rw [hj.mu M] at h1
        omega
      · rw [h1]
        exact hj
    · rw [tsN_set_other e]
      exact hj
  refine ⟨by rw [List.length_set]; exact h.ln, by have := h.tt; omega, fun t ht hb => ?_, hle, fun j hj hji => ?_, fun j hj h1 h2 => ?_⟩
  · rcases List.mem_or_eq_of_mem_set ht with ht | rfl
    · have := h.nb t ht hb
      omega
    · have := hN hb
      omega
  · by_cases h3 : m + 100 * (j + 1) ≤ i
    · exact hthr j (h.ph j hj h3)
    · rcases h.cur j hj (by omega) (by omega) with h4 | h4
      · exact hthr j h4
      · omega
  · by_cases h3 : m + 100 * j ≤ i
    · have hjk : k = j := by
        have e : (i - m) / 100 = j := by omega
        rw [hck (by omega) (by omega), e]
      subst hjk
      rcases h.cur k hj h3 (by omega) with h4 | h4
      · exact .inl (hthr k h4)
      · rw [tsN_set_same hkl]
        rcases hmu with h5 | ⟨h5, h6, h7⟩
        · exact .inr (by omega)
        · rw [h5]
          exact .inl h7
    · refine .inr ?_
      have h4 := (tsN (ts.set k t') j).mu_le M'
      have h5 := tsN_le hle j
      omega
/-- How many of the first threads have the node; how many of the first places of the list are it. -/
def hadT (ts : List TS) (x : Int) : Nat → Nat
  | 0 => 0
  | i + 1 => hadT ts x i + if x ∈ (tsN ts i).mine then 1 else 0
def hadL (l : List Int) (x : Int) : Nat → Nat
  | 0 => 0
  | i + 1 => hadL l x i + if iN l i = x then 1 else 0
theorem hadT_le (ts : List TS) (x : Int) : ∀ i, hadT ts x i ≤ i
  | 0 => Nat.le_refl _
  | i + 1 => by
    have := hadT_le ts x i
    unfold hadT
    split <;> omega
theorem hadL_le (l : List Int) (x : Int) : ∀ i, hadL l x i ≤ i
  | 0 => Nat.le_refl _
  | i + 1 => by
    have := hadL_le l x i
    unfold hadL
    split <;> omega
theorem hadL_take (l : List Int) (x : Int) : ∀ i, i ≤ l.length → hadL l x i = (l.take i).count x
  | 0, _ => by simp [hadL]
  | i + 1, h => by
    have hi : i < l.length := h
    have ei : iN l i = l[i] := by simp [iN, List.getD_eq_getElem?_getD, hi]
    rw [hadL, hadL_take l x i (by omega), List.take_succ_eq_append_getElem hi, List.count_append, ei]
    by_cases e : l[i] = x
    · rw [if_pos e, e]
      simp
    · rw [if_neg e, List.count_singleton, if_neg (by simpa using e)]
theorem hadT_take (ts : List TS) (x : Int) : ∀ i, i ≤ ts.length → (∀ t ∈ ts, t.mine.Nodup) → hadT ts x i = ((ts.take i).flatMap TS.mine).count x
  | 0, _, _ => by simp [hadT]
  | i + 1, h, hn => by
    have hi : i < ts.length := h
    have e : tsN ts i = ts[i] := by simp [tsN, List.getD_eq_getElem?_getD, hi]
    rw [hadT, hadT_take ts x i (by omega) hn, List.take_succ_eq_append_getElem hi, List.flatMap_append, List.count_append, e]
    have hnd := hn ts[i] (List.getElem_mem hi)
    simp only [List.flatMap_cons, List.flatMap_nil, List.append_nil]
    by_cases hx : x ∈ ts[i].mine
    · rw [if_pos hx]
      have h1 := List.nodup_iff_count.1 hnd x
      have h2 := List.count_pos_iff.2 hx
      omega
    · rw [if_neg hx, List.count_eq_zero_of_not_mem hx]
theorem had_one {p : Pl} (hp : p.ok) {M : MS} {l : List Int} {T : Nat} {ts : List TS} (h : GIn p M l T ts) {x : Int} (h0 : 0 ≤ x) (h1 : x < p.n) : hadT ts x ts.length + hadL l x l.length = 1 := by
  have hnd := h.nd
  have hrg : ∀ m ∈ l ++ ts.flatMap TS.mine, m ∈ rfr p.n.toNat 0 := fun m hm => by
    have hi : InR p m := by
      rcases List.mem_append.1 hm with hm | hm
      · exact h.fl.rg m hm
      · obtain ⟨t, ht, hmt⟩ := List.mem_flatMap.1 hm
        exact (h.ok t ht).rg m hmt
    exact rfr_mem.2 ⟨hi.1, by have := hi.2; have := hp.1; omega⟩
  have hmem : x ∈ l ++ ts.flatMap TS.mine := Classical.byContradiction fun hx => by
    have h2 := nodup_len (x :: (l ++ ts.flatMap TS.mine)) (rfr p.n.toNat 0) (List.nodup_cons.2 ⟨hx, hnd⟩) fun y hy => by
      rcases List.mem_cons.1 hy with rfl | hy
      · exact rfr_mem.2 ⟨h0, by omega⟩
      · exact hrg y hy
    rw [List.length_cons, h.ln, rfr_len] at h2
    omega
  have hc : (l ++ ts.flatMap TS.mine).count x = 1 := by
    have h2 := List.nodup_iff_count.1 hnd x
    have h3 := List.count_pos_iff.2 hmem
    omega
  have hmn : ∀ t ∈ ts, t.mine.Nodup := fun t ht => by
    obtain ⟨a, b, rfl⟩ := List.append_of_mem ht
    have h2 := (List.nodup_append.1 hnd).2.1
    rw [flat_mid] at h2
    exact (List.nodup_append.1 (List.nodup_append.1 h2).2.1).1
  have e1 := hadL_take l x l.length (Nat.le_refl _)
  have e2 := hadT_take ts x ts.length (Nat.le_refl _) hmn
  rw [List.take_length] at e1 e2
  rw [e1, e2]
  rw [List.count_append] at hc
  omega
end Go.Proofs.Ytpidmbclgfnekaa

/-
  Lists of lists of bools as arguments; the law FreeMany's threads as they are made. Conditions: those of each theorem.
-/
namespace Go.Proofs.Ytpidmbclgfnekaa
open Go Go.RowKit

/-- The i-th list. -/
def bsN (ls : List (List Bool)) (i : Nat) : List Bool := ls.getD i []
/-- The value v is a slice of slices of bools that reads, in w, as ls. -/
def Bss (w : World) (v : Value) (ls : List (List Bool)) : Prop :=
  ∃ a0 cap, v = .slice a0 ls.length cap ∧ ls.length ≤ cap ∧ (0 < ls.length → ∃ b o, a0 = some ⟨b, o, none⟩ ∧ b < w.heap.size ∧ ∀ i, i < ls.length → ∃ u, w.cell? ⟨b, o + i, none⟩ = some u ∧ Bs w u (bsN ls i))
theorem Bss.at {w : World} {a0 : Option Addr} {m cap : Nat} {ls : List (List Bool)} (h : Bss w (.slice a0 m cap) ls) {i : Nat} (hi : i < ls.length) : ∃ b o u, a0 = some ⟨b, o, none⟩ ∧ b < w.heap.size ∧ w.cell? ⟨b, o + i, none⟩ = some u ∧ Bs w u (bsN ls i) := by
  obtain ⟨a, c', e, _, hr⟩ := h
  simp at e
  obtain ⟨rfl, rfl, rfl⟩ := e
  obtain ⟨b, o, e1, h1, h2⟩ := hr (by omega)
  obtain ⟨u, h3, h4⟩ := h2 i hi
  exact ⟨b, o, u, e1, h1, h3, h4⟩
section
variable {H : Type} {enc : TypeId × Value → H} {base : Nat} {held : Bool} {w : World}
set_option maxRecDepth 8000 in
theorem leaf_bools {u : Value} {fuel : Nat} {y : DataW H × List MemPlace} (h : DataW.trod enc Try.prog w base (fun _ => true) held fuel 31 [u] = some y) : ∃ l, Bs w u l := by
  obtain ⟨n, x, hN⟩ := nv_of_trod1 1 (fun _ => 4) Try.underlying31 (by kernel_rfl : Try.prog.cellsOf 4 = 1) (by decide) (by kernel_rfl) h
  exact bs_of_nv (T := fun _ => 4) Try.underlying4 hN
theorem bss_of_nv {v : Value} {n : Nat} {x : Nat → Nat → Value} (h : Nv enc Try.prog base held 1 (fun _ => 31) w v n x) : ∃ ls, Bss w v ls := by
  obtain ⟨a0, cap, e, hc, hr⟩ := h
  by_cases hp : 0 < n
  · obtain ⟨b, off, ea, hb, hcell⟩ := hr hp
    have each : ∀ i, ∃ l : List Bool, i < n → Bs w (x i 0) l := fun i => by
      by_cases hlt : i < n
      · obtain ⟨_, fuel, y, hy⟩ := hcell i hlt 0 (by omega)
        obtain ⟨l, hl⟩ := leaf_bools hy
        exact ⟨l, fun _ => hl⟩
      · exact ⟨[], fun h => absurd h hlt⟩
    obtain ⟨f, hf⟩ := Classical.axiomOfChoice each
    refine ⟨(List.range n).map f, a0, cap, by simpa using e, by simpa using hc, fun _ => ⟨b, off, ea, hb, fun i hi => ?_⟩⟩
    have hi' : i < n := by simpa using hi
    have h1 := (hcell i hi' 0 (by omega)).1
    rw [Nat.mul_one, Nat.add_zero] at h1
    refine ⟨_, h1, ?_⟩
    have e2 : bsN ((List.range n).map f) i = f i := by
      unfold bsN
      rw [List.getD_eq_getElem?_getD, List.getElem?_map, List.getElem?_range hi']
      rfl
    rw [e2]
    exact hf i hi'
  · obtain rfl : n = 0 := by omega
    exact ⟨[], a0, cap, e, hc, fun h => absurd h (Nat.not_lt_zero _)⟩
end
/-- A thread as it is made. -/
def ThNew (B : Nat) (u : Value) (w : World) : Prop := Th12 B u (.int .i64 0) (.bool false) (.bool false) (.int .i64 0) (.int .i64 0) (.int .i64 0) (.int .u64 0) (.int .u64 0) .nilFunc (.pointer none) (.slice none 0 0) w
/-- So many threads are made; w1 is where the first one was. -/
structure PtIn (w w1 : World) (cs : List (List Bool)) (k : Nat) (v : Value) (Bf : Nat → Nat) (wr : World) : Prop where
  ex : Ext w1 wr
  own : wr.ownsRow w1.heap.size 32 1 v k (ptrs Bf k)
  b : ∀ i, i < k → w1.heap.size ≤ Bf i ∧ ∃ u, ThNew (Bf i) u wr ∧ Bs w u (bsN cs i)
  inj : ∀ i j, i < k → j < k → Bf i = Bf j → i = j
theorem ptrs_up (Bf : Nat → Nat) (k B : Nat) : ptrs (fun i => if i = k then B else Bf i) (k + 1) = ptrs Bf k ++ [.pointer (some ⟨B, 0, none⟩)] := (ptrs_snoc Bf k B).symm
theorem PtIn.step {w w1 : World} {cs : List (List Bool)} {k : Nat} {v : Value} {Bf : Nat → Nat} {wr w2 w3 : World} {v' : Value} {B : Nat} {u : Value} (h : PtIn w w1 cs k v Bf wr) (hx : Ext wr w2) (hB : wr.heap.size ≤ B) (hn : ThNew B u w2) (hu : Bs w u (bsN cs k)) (hg : w2.grownBy w3 v.ownBlock)
    (hv : w3.ownsRow w1.heap.size 32 1 v' (k + 1) (ptrs Bf k ++ [.pointer (some ⟨B, 0, none⟩)])) : PtIn w w1 cs (k + 1) v' (fun i => if i = k then B else Bf i) w3 := by
  have hs := h.ex.size
  have hgk : ∀ j, v.ownBlock = some j → w1.heap.size ≤ j ∧ j < wr.heap.size := fun j hj => by
    rcases h.own.2 with ⟨h1, _⟩ | ⟨g, cap, cur, h1, h2, h3, _⟩
    · rw [h1] at hj
      cases hj
    · rw [h1] at hj
      cases hj
      exact ⟨h2, heap_lt h3⟩
  have keep : ∀ {b : Nat} {c : Array Value}, w2.heap[b]? = some (.cells c 42 (0, 0)) → (∀ j, v.ownBlock = some j → j ≠ b) → w3.heap[b]? = some (.cells c 42 (0, 0)) := fun {b c} hb hne => (hg.block b (heap_lt hb) fun e => hne b e.symm rfl).trans hb
  refine ⟨⟨hg.os.trans (hx.os.trans h.ex.os), hg.tape.trans (hx.tape.trans h.ex.tape), hg.output.trans (hx.output.trans h.ex.output), Nat.le_trans hs (Nat.le_trans hx.size hg.size), fun j hj => ?_⟩, ?_, fun i hi => ?_, fun i j hi hj e => ?_⟩
  · have h1 : w2.heap[j]? = w1.heap[j]? := (hx.block j (Nat.lt_of_lt_of_le hj hs)).trans (h.ex.block j hj)
    exact (hg.block j (Nat.lt_of_lt_of_le hj (Nat.le_trans hs hx.size)) fun e => by have := (hgk j e.symm).1; omega).trans h1
  · rw [ptrs_up]
    exact hv
  · by_cases e : i = k
    · subst e
      simp only [if_true]
      exact ⟨Nat.le_trans hs hB, u, keep hn fun j hj e => by have := (hgk j hj).2; omega, hu⟩
    · simp only [if_neg e]
      obtain ⟨h1, u2, h2, h3⟩ := h.b i (by omega)
      refine ⟨h1, u2, keep ((hx.block _ (heap_lt h2)).trans h2) fun j hj e => ?_, h3⟩
      exact own_ne h.own h2 (by decide) (by rw [hj, e])
  · have hlt : ∀ i, i < k → Bf i < B := fun i hi => by
      obtain ⟨_, u2, h2, _⟩ := h.b i hi
      have := heap_lt h2
      omega
    by_cases ei : i = k
    · by_cases ej : j = k
      · omega
      · rw [if_pos ei, if_neg ej] at e
        have := hlt j (by omega)
        omega
    · by_cases ej : j = k
      · rw [if_neg ei, if_pos ej] at e
        have := hlt i (by omega)
        omega
      · rw [if_neg ei, if_neg ej] at e
        exact h.inj i j (by omega) (by omega) e
theorem own_rowP {w : World} {base : Nat} {e : TypeId} {v : Value} {n : Nat} {xs : List Value} (h : w.ownsRow base e 1 v n xs) (hn : 0 < n) :
    ∃ g cap, v = .slice (some ⟨g, 0, none⟩) n cap ∧ base ≤ g ∧ g < w.heap.size ∧ (∀ i, i < n → w.cell? ⟨g, i, none⟩ = xs[i]?) ∧ (∀ i, w.frozen? ⟨g, i, none⟩ = false) := by
  rcases h.2 with ⟨_, h2⟩ | ⟨g, cap, cur, rfl, hg, hh, hc, hm, hs, ht⟩
  · omega
  · refine ⟨g, cap, rfl, hg, heap_lt hh, fun i hi => ?_, fun i => free_at hh⟩
    have h3 : (cur.toList.take (n * 1))[i]? = xs[i]? := by rw [ht]
    rw [List.getElem?_take, if_pos (by omega), Array.getElem?_toList] at h3
    rw [← h3]
    simp [World.cell?, hh]
/-- All threads are made: the law's second loop may begin. -/
theorem lw_begin {p : Pl} {lo hi n : Nat} {L : Lay} {w w1 : World} {cs : List (List Bool)} {v : Value} {Bf : Nat → Nat} {wr : World} {M : MS} (h : PtIn w w1 cs n v Bf wr) (hn : n = cs.length) (hn1 : 1 ≤ n) (hM : MemIn lo hi L M w1) (hF : FL p M (rfr p.n.toNat 0) 0) (hE : Ext w w1) (hpb : PBox w.heap.size p w1) (hlo : w.heap.size < lo) :
    ∃ bl cap, v = .slice (some ⟨bl, 0, none⟩) n cap ∧ LwAt lo hi wr.heap.size bl n w Bf ∧ LwIn p lo hi wr.heap.size bl 0 n L w Bf M (rfr p.n.toNat 0) 0 (cs.map fun ps => ⟨ps, 0, false, false, .pl, 0, []⟩) (fun _ => noF) (fun _ => none) wr := by
  obtain ⟨bl, cap, rfl, hb1, hb2, hcell, _⟩ := own_rowP h.own (by omega)
  have htop := hM.top
  have hlh : lo ≤ hi := Nat.le_of_lt (Nat.lt_of_le_of_lt hM.mIn.1 hM.mIn.2)
  subst hn
  have hts : ∀ i, i < cs.length → tsN (cs.map fun ps => (⟨ps, 0, false, false, .pl, 0, []⟩ : TS)) i = ⟨bsN cs i, 0, false, false, .pl, 0, []⟩ := fun i hi => by
    simp [tsN, bsN, List.getD_eq_getElem?_getD, hi]
  refine ⟨bl, cap, rfl, ⟨hlo, ⟨by omega, hb2⟩, fun i hi => ?_, h.inj, hlh⟩, ⟨hM.ext h.ex, ⟨hF, fun t ht => ?_, ?_, ?_⟩, ext_trans hE h.ex, (h.ex.block _ (heap_lt hpb)).trans hpb, Nat.le_refl _, by simp, fun i hi => ?_, fun i hi => ?_, fun i k _ _ _ => ⟨fun hf => hf, fun j hj => (by cases hj)⟩, fun i k _ _ _ j hj => (by cases hj)⟩⟩
  · obtain ⟨h1, u, h2, _⟩ := h.b i hi
    refine ⟨by omega, heap_lt h2, fun e => ?_⟩
    exact own_ne h.own h2 (by decide) (by rw [e]; rfl)
  · obtain ⟨ps, _, rfl⟩ := List.mem_map.1 ht
    exact ⟨Nat.zero_le _, fun n hn => by simp at hn, fun hf => (by cases hf), fun hf => (by cases hf), fun hf => (by cases hf)⟩
  · have : (cs.map fun ps => (⟨ps, 0, false, false, .pl, 0, []⟩ : TS)).flatMap TS.mine = [] := by simp [List.flatMap_map]
    rw [this, List.append_nil]
    exact hF.nd
  · have : (cs.map fun ps => (⟨ps, 0, false, false, .pl, 0, []⟩ : TS)).flatMap TS.mine = [] := by simp [List.flatMap_map]
    rw [this, List.append_nil, rfr_len]
  · have h1 := hcell i hi
    rw [Nat.zero_add, h1]
    unfold ptrs
    rw [List.getElem?_map, List.getElem?_range hi]
    rfl
  · rw [hts i hi]
    obtain ⟨h1, u, h2, h3⟩ := h.b i hi
    refine ⟨u, .slice none 0 0, 0, accZ, .nilFunc, ⟨?_, IR.nil _ _, (by intro hf; cases hf), .inl rfl, fun hf => (by cases hf), bnd_no _, fun j hj => hj.elim⟩, h3, rfl⟩
    have e1 : accZ.op = 0 := rfl
    have e2 : accZ.at_ = 0 := rfl
    have e3 : U accZ.a = 0 := U_0
    have e4 : U accZ.b = 0 := U_0
    rw [e1, e2, e3, e4]
    exact h2
end Go.Proofs.Ytpidmbclgfnekaa

/-
  What the law FreeMany's loops keep, as calls find it: apart, the threads' cells. Conditions: those of each theorem.
-/
namespace Go.Proofs.Ytpidmbclgfnekaa
open Go Go.RowKit

theorem ThAt.ext {p : Pl} {lo hi base : Nat} {w0 : World} {B : Nat} {t : TS} {F : Nat → Prop} {g : Option Nat} {w w' : World} (h : ThAt p lo hi base w0 B t F g w) (hx : Ext w w') : ThAt p lo hi base w0 B t F g w' := by
  obtain ⟨vp, vm, y, a, fn, h1, h2, h3⟩ := h
  exact ⟨vp, vm, y, a, fn, h1.ext hx, h2, h3⟩
theorem LwIn.ext {p : Pl} {lo hi base bl ol n : Nat} {L : Lay} {w : World} {Bf : Nat → Nat} {M : MS} {l : List Int} {T : Nat} {ts : List TS} {Ff : Nat → Nat → Prop} {gf : Nat → Option Nat} {wr wr' : World} (h : LwIn p lo hi base bl ol n L w Bf M l T ts Ff gf wr) (hx : Ext wr wr') : LwIn p lo hi base bl ol n L w Bf M l T ts Ff gf wr' :=
  ⟨h.m.ext hx, h.g, ext_trans h.ex hx, h.pb.ext hx, Nat.le_trans h.sz hx.size, h.ln, fun i hi => ext_cell hx (h.row i hi), fun i hi => (h.th i hi).ext hx, h.sF, h.sG⟩
theorem lw_apart {p : Pl} (hp : p.ok) {lo hi base bl n : Nat} {L : Lay} {w : World} {Bf : Nat → Nat} {M : MS} {l : List Int} {T : Nat} {ts : List TS} {Ff : Nat → Nat → Prop} {gf : Nat → Option Nat} {wr : World} (h : LwIn p lo hi base bl 0 n L w Bf M l T ts Ff gf wr) (hn : n ≤ 60) (cap : Nat) :
    Calls Try.prog 9 #[.slice (some ⟨bl, 0, none⟩) n cap, .int .i64 p.n] wr (Ret (.bool true) wr) := by
  have hpn := hp.1
  have hfl : (ts.map TS.mine).flatten = ts.flatMap TS.mine := by rw [List.flatMap_def]
  have hgd : ∀ i, i < n → (ts.map TS.mine).getD i [] = (tsN ts i).mine := fun i hi => by
    have : i < ts.length := by rw [h.ln]; exact hi
    simp [tsN, List.getD_eq_getElem?_getD, this]
  have hR : RowsAt wr bl 0 (ts.map TS.mine) := fun i hi => by
    rw [List.length_map, h.ln] at hi
    obtain ⟨vp, vm, y, a, fn, h1, _, _⟩ := h.th i hi
    refine ⟨Bf i, vm, h.row i hi, h1.blk.cs.c11, ?_⟩
    rw [hgd i hi]
    exact h1.row.is
  have hrg : ∀ m ∈ (ts.map TS.mine).flatten, 0 ≤ m ∧ m < ((p.n.toNat : Nat) : Int) := fun m hm => by
    rw [hfl] at hm
    obtain ⟨t, ht, hmt⟩ := List.mem_flatMap.1 hm
    have := (h.g.ok t ht).rg m hmt
    exact ⟨this.1, by have := this.2; omega⟩
  have hnd : (ts.map TS.mine).flatten.Nodup := by
    rw [hfl]
    exact (List.nodup_append.1 h.g.nd).2.1
  have := apart_yes p.n.toNat (by omega) (by omega) (ts.map TS.mine) bl 0 cap wr hR (by rw [List.length_map, h.ln]; exact hn) hnd hrg
  rw [List.length_map, h.ln, show ((p.n.toNat : Nat) : Int) = p.n by omega] at this
  exact this
/-- The cells of a thread that is through. -/
theorem lw_cells {p : Pl} {lo hi base bl n : Nat} {L : Lay} {w : World} {Bf : Nat → Nat} {M : MS} {l : List Int} {T : Nat} {ts : List TS} {Ff : Nat → Nat → Prop} {gf : Nat → Option Nat} {wr : World} (h : LwIn p lo hi base bl 0 n L w Bf M l T ts Ff gf wr) {i : Nat} (hi : i < n) (ht : (tsN ts i).thr) :
    ∃ pa pc vm, wr.cell? ⟨bl, i, none⟩ = some (.pointer (some ⟨Bf i, 0, none⟩)) ∧ wr.cell? ⟨Bf i, 0, none⟩ = some (.slice pa (tsN ts i).ps.length pc) ∧ wr.cell? ⟨Bf i, 1, none⟩ = some (.int .i64 ((tsN ts i).ps.length : Int)) ∧ wr.cell? ⟨Bf i, 2, none⟩ = some (.bool false) ∧ wr.cell? ⟨Bf i, 11, none⟩ = some vm ∧ Is wr vm (tsN ts i).mine := by
  obtain ⟨vp, vm, y, a, fn, h1, h2, _⟩ := h.th i hi
  obtain ⟨pa, pc, rfl, _, _⟩ := h2
  have hr := h.row i hi
  rw [Nat.zero_add] at hr
  have c1 := h1.blk.cs.c1
  have c2 := h1.blk.cs.c2
  rw [ht.2] at c1
  rw [ht.1] at c2
  exact ⟨pa, pc, vm, hr, h1.blk.cs.c0, c1, c2, h1.blk.cs.c11, h1.row.is⟩
end Go.Proofs.Ytpidmbclgfnekaa
