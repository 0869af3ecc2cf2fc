/-
  ThreadTwo: the call's ways, walked. Conditions: those of each theorem.
-/
import Derived.Test.YthepcnffadjeaaaThreadTwoA
namespace Go.Proofs.Ythepcnffadjeaaa
open Go Go.RowKit

def TwD (lo hi q : Nat) (k : Nat) : Prop := (lo ≤ k ∧ k < hi) ∨ k = q ∨ k = q + 2 ∨ k = q + 3 ∨ k = q + 5
def TwoRel1 (lo hi : Nat) (L : Lay) (q : Nat) (A : List (BitVec 64)) (w : World) (sm i : Value) (wr : World) : Prop :=
  ∃ k : Nat, k ≤ A.length ∧ sm = .int .u64 (U (bsum (A.take k))) ∧ i = .int .i64 (k : Int) ∧ TwoIn (TwD lo hi q) lo hi L q (M0 [1] 1) (wait20 ((A.take k).map xL)) (wait20 []) w wr
def TwoRel2 (lo hi : Nat) (L : Lay) (q : Nat) (A B : List (BitVec 64)) (w : World) (sm i : Value) (wr : World) : Prop :=
  ∃ k : Nat, k ≤ B.length ∧ sm = .int .u64 (U (bsum A + bsum (B.take k))) ∧ i = .int .i64 (k : Int) ∧ TwoIn (TwD lo hi q) lo hi L q (M0 [1] 1) (wait20 (A.map xL)) (wait20 ((B.take k).map yL)) w wr
/-- The picks: j accesses of the first one's are done, m of the second one's. -/
structure TwoAt (lo hi : Nat) (L : Lay) (q : Nat) (A B : List (BitVec 64)) (np k j m : Nat) (M : MS) (S T : WS) (w wr : World) : Prop where
  law : TwoIn (TwD lo hi q) lo hi L q M S T w wr
  sx : XSt A j S
  sy : YSt B m T
  jA : j ≤ 2 * A.length
  mB : m ≤ B.length
  jn : min (2 * A.length) ((k - np) - ((k + 2) / 3 - (np + 2) / 3)) ≤ j
  mn : min B.length ((k + 2) / 3 - (np + 2) / 3) ≤ m
  st : AddSt M (bsum (A.take ((j + 1) / 2)) + bsum (B.take m)) (j + m : Nat)
def TwoRel3 (lo hi : Nat) (L : Lay) (q : Nat) (A B : List (BitVec 64)) (np : Nat) (w : World) (i : Value) (wr : World) : Prop :=
  ∃ (k j m : Nat) (M : MS) (S T : WS), k ≤ np + 60 ∧ i = .int .i64 (k : Int) ∧ TwoAt lo hi L q A B np k j m M S T w wr
theorem TwoAt.over {lo hi : Nat} {L : Lay} {q : Nat} {A B : List (BitVec 64)} {np k j m : Nat} {M : MS} {S T : WS} {w wr : World} (h : TwoAt lo hi L q A B np k j m M S T w wr) (s : Sub wr) : TwoAt lo hi L q A B np k j m M S T w (over wr s) :=
  ⟨h.law.over s, h.sx, h.sy, h.jA, h.mB, h.jn, h.mn, h.st⟩
/-- A pick of the first one. -/
theorem TwoAt.px {lo hi : Nat} {L : Lay} {q : Nat} {A B : List (BitVec 64)} {np k j m : Nat} {M : MS} {S T : WS} {w wr : World} (h : TwoAt lo hi L q A B np k j m M S T w wr) (hA : A.length ≤ 20) (hB : B.length ≤ 20) (hk : k < np ∨ 0 < k % 3) :
    ∃ x, pickF 0 1#64 M S = x ∧ ∀ wr', LawIn (TwD lo hi q) lo hi L q x.1 x.2.1 w wr' → FD (PkD lo hi (q + 2) q) wr wr' → ∃ j', TwoAt lo hi L q A B np (k + 1) j' m x.1 x.2.1 T w wr' := by
  have h1 := h.jA
  have h2 := h.mB
  have h3 := h.jn
  have h4 := h.mn
  by_cases hj : j < 2 * A.length
  · obtain ⟨M', S', x, e, hx, hM⟩ := x_pick h.sx h.st hj (by omega) (by omega)
    refine ⟨_, e, fun wr' hL hf => ⟨j + 1, h.law.onX hL hf, hx, h.sy, by omega, h2, by omega, by omega, ?_⟩⟩
    have e1 : bsum (A.take ((j + 1) / 2)) + bsum (B.take m) + (if j % 2 = 0 then uN A (j / 2) else 0#64) = bsum (A.take ((j + 1 + 1) / 2)) + bsum (B.take m) := by
      by_cases h5 : j % 2 = 0
      · rw [if_pos h5, show (j + 1 + 1) / 2 = j / 2 + 1 by omega, show (j + 1) / 2 = j / 2 by omega, bsum_take A (j / 2) (by omega)]
        rw [BitVec.add_assoc, BitVec.add_assoc, BitVec.add_comm (bsum (B.take m))]
      · rw [if_neg h5, show (j + 1 + 1) / 2 = (j + 1) / 2 by omega, BitVec.add_zero]
    rw [e1] at hM
    have e2 : ((j + m : Nat) : Int) + 1 = ((j + 1 + m : Nat) : Int) := by omega
    rw [e2] at hM
    exact hM
  · obtain rfl : j = 2 * A.length := by omega
    obtain ⟨e, _⟩ := x_idle (M := M) h.sx
    exact ⟨_, e, fun wr' hL hf => ⟨_, h.law.onX hL hf, h.sx, h.sy, h1, h2, by omega, by omega, h.st⟩⟩
/-- A pick of the second one. -/
theorem TwoAt.py {lo hi : Nat} {L : Lay} {q : Nat} {A B : List (BitVec 64)} {np k j m : Nat} {M : MS} {S T : WS} {w wr : World} (h : TwoAt lo hi L q A B np k j m M S T w wr) (hA : A.length ≤ 20) (hB : B.length ≤ 20) (hk : k < np ∨ k % 3 = 0) :
    ∃ x, pickF 0 1#64 M T = x ∧ ∀ wr', LawIn (TwD lo hi q) lo hi L (q + 3) x.1 x.2.1 w wr' → FD (PkD lo hi (q + 3 + 2) (q + 3)) wr wr' → ∃ m', TwoAt lo hi L q A B np (k + 1) j m' x.1 S x.2.1 w wr' := by
  have h1 := h.jA
  have h2 := h.mB
  have h3 := h.jn
  have h4 := h.mn
  by_cases hj : m < B.length
  · obtain ⟨M', S', x, e, hx, hM⟩ := y_pick h.sy h.st hj (by omega) (by omega)
    refine ⟨_, e, fun wr' hL hf => ⟨m + 1, h.law.onY hL hf, h.sx, hx, h1, by omega, by omega, by omega, ?_⟩⟩
    rw [BitVec.add_assoc, ← bsum_take B m hj] at hM
    have e2 : ((j + m : Nat) : Int) + 1 = ((j + (m + 1) : Nat) : Int) := by omega
    rw [e2] at hM
    exact hM
  · obtain rfl : m = B.length := by omega
    have e := y_idle (M := M) h.sy
    exact ⟨_, e, fun wr' hL hf => ⟨_, h.law.onY hL hf, h.sx, h.sy, h1, h2, by omega, by omega, h.st⟩⟩

set_option maxRecDepth 8000 in
set_option maxHeartbeats 4000000 in
theorem threadTwo_small (A B : List (BitVec 64)) (P : List Bool) (a0 b0 p0 : Option Addr) (ca cb cp : Nat) (w : World) (hA : A.length ≤ 20) (hB : B.length ≤ 20) (hP : P.length ≤ 60)
    (HA : Hid (Bs w (.slice a0 A.length ca) A)) (HB : Hid (Bs w (.slice b0 B.length cb) B)) (HP : Hid (Bl w (.slice p0 P.length cp) P)) :
    Calls Try.prog 6 #[.slice a0 A.length ca, .slice b0 B.length cb, .slice p0 P.length cp] w (Ret (.bool true) w) := by
  have q0 : decide (20 < (A.length : Int)) = false := by simp; omega
  have q1 : decide (20 < (B.length : Int)) = false := by simp; omega
  have q2 : decide (60 < (P.length : Int)) = false := by simp; omega
  go_enter Try.func6, Try.ntmps6
  go_wp2_with fail
  refine (awake_any _).mono ?_
  rintro e w' hr'
  obtain ⟨rfl, s, rfl⟩ := hr'.over
  clear hr'
  go_wp2_with fail
  refine (new_law [1] _ _ (over_below w s) rfl rfl ok1).mono ?_
  rintro e X ⟨lo, hi, L, rfl, hM, hX, hlo⟩
  have HM : Hid (MemIn lo hi L (M0 [1] 1) X) := Lib.hid hM
  have HX := Lib.hid hX
  obtain ⟨q, hq⟩ : ∃ q, X.heap.size = q := ⟨_, rfl⟩
  have htop : hi ≤ q := by rw [← hq]; exact hM.top
  have hwq : w.heap.size ≤ q := by rw [← hq]; exact hX.size
  have HQ := Lib.hid hq
  clear hM hX hq
  go_wp2_with fail
  refine (lists_lo L.bm q 20 20 rfl (by decide) (by decide) X HQ.out).mono ?_
  rintro e X2 ⟨rfl, hW, hx, hs⟩
  have HW := Lib.hid (hW (TwD lo hi q) (.inr (.inr (.inl rfl))) (.inr (.inl rfl)))
  have HX2 := Lib.hid hx
  have HS2 := Lib.hid hs
  clear hW hx hs
  go_wp2_with fail
  refine (lists_lo L.bm (q + 3) 20 20 rfl (by decide) (by decide) X2 HS2.out).mono ?_
  rintro e X3 ⟨rfl, hW, hx, hs⟩
  have HT : Hid (TwoIn (TwD lo hi q) lo hi L q (M0 [1] 1) (wait20 (([] : List (BitVec 64)).map xL)) (wait20 []) w X3) := by
    have hb : ∀ k, TwD lo hi q k → k < X3.heap.size := fun k hk => by unfold TwD at hk; omega
    have hm := (HM.out.ext HX2.out).ext hx
    have he := ext_trans (ext_trans HX.out HX2.out) hx
    exact Lib.hid ⟨⟨hm, HW.out.ext hx, he, fun k h1 h2 => .inl ⟨h1, h2⟩, hb, htop, hlo, hwq⟩, ⟨hm, hW _ (.inr (.inr (.inr (.inr rfl)))) (.inr (.inr (.inr (.inl rfl)))), he, fun k h1 h2 => .inl ⟨h1, h2⟩, hb, by omega, hlo, by omega⟩⟩
  clear hW hx hs HM HX HQ HW HX2 HS2
  go_wp2
  go_loopw [13, 14] (fun sm i wr => TwoRel1 lo hi L q A w sm i wr) (fun sm i _ => ((A.length : Int) - intOf i).toNat)
  case atStart => exact ⟨0, Nat.zero_le _, by rw [show U (bsum (A.take 0)) = 0 from U_0], rfl, HT.out⟩
  case round =>
    clear HT
    obtain ⟨k, hk, rfl, rfl, hT⟩ := hrel
    have HT := Lib.hid hT
    clear hT
    by_cases hlt : k < A.length
    · have q3 : decide ((k : Int) < (A.length : Int)) = true := by simp; omega
      obtain ⟨b, o, rfl, hb, hcells⟩ := HA.out.at (by omega)
      obtain ⟨hc, hc255⟩ := hcells k hlt
      have hc0 := U_nonneg (uN A k)
      have HC := Lib.hid hc
      have c0 := ext_cell HT.out.x.ext hc
      have lb := cell_lt c0
      clear hc hcells
      have HSU := Lib.hid (bsum_take A k hlt)
      have HWX := Lib.hid (wait_x A k hlt)
      generalize hxv : uN A k = xv at *
      generalize hbs : bsum (A.take k) = bs at *
      go_wp2_with fail
      refine (lawGive_room (HT.out.x.grow (ext_alloc _ (ext_refl _))) (xL xv) _ (asB_lit _ _ _ _ _ (by simp [A4, xL, accZ, U_0]) rfl) (by simp [xL]) (by simp [wait20]; omega)).mono ?_
      rintro e Y ⟨rfl, hL, hf⟩
      rw [HWX.out] at hL
      have HT2 := Lib.hid ((HT.out.grow (ext_alloc _ (ext_refl _))).onX hL (hf.wide fun _ hk => .inr (.inr hk)))
      have c1 := ext_cell HT2.out.x.ext HC.out
      have lb1 := cell_lt c1
      clear hL hf HT c0 lb
      have hUa := U_add bs xv
      go_wp2
      refine ⟨⟨k + 1, by omega, ?_, by go_num, HT2.out⟩, by simp [intOf]; omega⟩
      rw [HSU.out]
      try rw [hUa]
    · obtain rfl : k = A.length := by omega
      have q3 : decide ((A.length : Int) < (A.length : Int)) = false := by simp
      clear hlt hk
      rw [List.take_length] at HT ⊢
      have HT0 : Hid (TwoIn (TwD lo hi q) lo hi L q (M0 [1] 1) (wait20 (A.map xL)) (wait20 ((B.take 0).map yL)) w wr) := HT
      clear HT
      have ez : bsum A + bsum (B.take 0) = bsum A := by
        rw [List.take_zero]
        exact BitVec.add_zero _
      go_wp2
      go_loopw [13, 15] (fun sm i wr => TwoRel2 lo hi L q A B w sm i wr) (fun sm i _ => ((B.length : Int) - intOf i).toNat)
      case atStart => exact ⟨0, Nat.zero_le _, by rw [ez], rfl, HT0.out⟩
      case round =>
        clear HT0 ez
        obtain ⟨k, hk, rfl, rfl, hT⟩ := hrel
        have HT := Lib.hid hT
        clear hT
        by_cases hlt : k < B.length
        · have q4 : decide ((k : Int) < (B.length : Int)) = true := by simp; omega
          obtain ⟨b, o, rfl, hb, hcells⟩ := HB.out.at (by omega)
          obtain ⟨hc, hc255⟩ := hcells k hlt
          have hc0 := U_nonneg (uN B k)
          have HC := Lib.hid hc
          have c0 := ext_cell HT.out.x.ext hc
          have lb := cell_lt c0
          clear hc hcells
          have HSU := Lib.hid (bsum_take B k hlt)
          have HWX := Lib.hid (wait_y B k hlt)
          generalize hxv : uN B k = xv at *
          generalize hbs : bsum (B.take k) = bs at *
          generalize hba : bsum A = ba at *
          go_wp2_with fail
          refine (lawGive_room (HT.out.y.grow (ext_alloc _ (ext_refl _))) (yL xv) _ (asB_lit _ _ _ _ _ (by simp [A4, yL, U_0]) rfl) (by simp [yL]) (by simp [wait20]; omega)).mono ?_
          rintro e Y ⟨rfl, hL, hf⟩
          rw [HWX.out] at hL
          have HT2 := Lib.hid ((HT.out.grow (ext_alloc _ (ext_refl _))).onY hL (hf.wide fun _ hk => .inr (.inr hk)))
          have c1 := ext_cell HT2.out.x.ext HC.out
          have lb1 := cell_lt c1
          clear hL hf HT c0 lb
          have hUa := U_add (ba + bs) xv
          go_wp2
          refine ⟨⟨k + 1, by omega, ?_, by go_num, HT2.out⟩, by simp [intOf]; omega⟩
          rw [HSU.out, hba, ← BitVec.add_assoc]
          try rw [hUa]
        · obtain rfl : k = B.length := by omega
          have q4 : decide ((B.length : Int) < (B.length : Int)) = false := by simp
          clear hlt hk
          rw [List.take_length] at HT ⊢
          have HT3 : Hid (TwoAt lo hi L q A B P.length 0 0 0 (M0 [1] 1) (wait20 (A.map xL)) (wait20 (B.map yL)) w wr) :=
            Lib.hid ⟨HT.out, .inl ⟨rfl, rfl, rfl⟩, ⟨rfl, rfl⟩, Nat.zero_le _, Nat.zero_le _, by omega, by omega, ⟨rfl, rfl, rfl, rfl, rfl⟩⟩
          clear HT
          generalize hsm : bsum A + bsum B = sm
          have HSM := Lib.hid hsm
          clear hsm
          go_wp2
          go_loopw [16] (fun i wr => TwoRel3 lo hi L q A B P.length w i wr) (fun i _ => ((P.length : Int) + 60 - intOf i).toNat)
          case atStart => exact ⟨0, 0, 0, _, _, _, Nat.zero_le _, rfl, HT3.out⟩
          case round =>
            clear HT3
            obtain ⟨k, j, m, M, S, T, hk, rfl, hT⟩ := hrel
            have HT := Lib.hid hT
            clear hT
            by_cases hlt : k < P.length + 60
            · have q5 : decide ((k : Int) < (P.length : Int) + 60) = true := by simp; omega
              by_cases hkp : k < P.length
              · have q6 : decide ((k : Int) < (P.length : Int)) = true := by simp; omega
                have q7 : decide ((P.length : Int) ≤ (k : Int)) = false := by simp; omega
                have q8 : ¬ ((P.length : Int) ≤ (k : Int)) := by omega
                obtain ⟨b, o, rfl, hb, hcells⟩ := HP.out.at (by omega)
                have c0 := ext_cell HT.out.law.x.ext (hcells k hkp)
                have lb := cell_lt c0
                clear hcells
                cases hbv : P.getD k false with
                | true =>
                  rw [hbv] at c0
                  go_wp2_with fail
                  refine (cap_int HT.out.law.x.mem 0 1#64 (by decide) (by rw [HT.out.st.n]; decide) (Lib.hid HT.out.st.e)).mono ?_
                  rintro e w' hr'
                  obtain ⟨rfl, s2, rfl⟩ := hr'.over
                  clear hr'
                  obtain ⟨x, hx, hn⟩ := TwoAt.px (HT.out.over s2) hA hB (by omega)
                  have HPK := Lib.hid hx
                  have HNX := Lib.hid hn
                  clear hx hn
                  go_wp2_with fail
                  refine (lawPick (HT.out.law.over s2).x 0 1#64 x HPK).mono ?_
                  rintro e Y ⟨ra, cp', rfl, _, hL, hf⟩
                  obtain ⟨j', hT'⟩ := HNX.out Y hL hf
                  have HT2 := Lib.hid hT'
                  clear hL hf hT' HT HPK HNX
                  go_wp2
                  exact ⟨⟨k + 1, j', m, _, _, _, by omega, by go_num, HT2.out⟩, by simp [intOf]; omega⟩
                | false =>
                  rw [hbv] at c0
                  go_wp2_with fail
                  refine (cap_int HT.out.law.x.mem 0 1#64 (by decide) (by rw [HT.out.st.n]; decide) (Lib.hid HT.out.st.e)).mono ?_
                  rintro e w' hr'
                  obtain ⟨rfl, s2, rfl⟩ := hr'.over
                  clear hr'
                  obtain ⟨x, hx, hn⟩ := TwoAt.py (HT.out.over s2) hA hB (by omega)
                  have HPK := Lib.hid hx
                  have HNX := Lib.hid hn
                  clear hx hn
                  go_wp2_with fail
                  refine (lawPick (HT.out.law.over s2).y 0 1#64 x HPK).mono ?_
                  rintro e Y ⟨ra, cp', rfl, _, hL, hf⟩
                  obtain ⟨m', hT'⟩ := HNX.out Y hL hf
                  have HT2 := Lib.hid hT'
                  clear hL hf hT' HT HPK HNX
                  go_wp2
                  exact ⟨⟨k + 1, j, m', _, _, _, by omega, by go_num, HT2.out⟩, by simp [intOf]; omega⟩
              · have q6 : decide ((k : Int) < (P.length : Int)) = false := by simp; omega
                have q7 : decide ((P.length : Int) ≤ (k : Int)) = true := by simp; omega
                have q8 : (P.length : Int) ≤ (k : Int) := by omega
                have t1 : ((k : Int).tmod 3) = ((k % 3 : Nat) : Int) := by first | exact (Int.ofNat_tmod k 3).symm | exact Int.ofNat_tmod k 3 | (rw [Int.tmod_eq_emod_of_nonneg (by omega)]; omega)
                by_cases h3 : 0 < k % 3
                · have q9 : decide ((0 : Int) < ((k : Int).tmod 3)) = true := by rw [t1]; simp; omega
                  have q10 : (0 : Int) < ((k : Int).tmod 3) := by rw [t1]; omega
                  have q11 : ¬ (((k : Int).tmod 3) ≤ (0 : Int)) := by rw [t1]; omega
                  go_wp2_with fail
                  refine (cap_int HT.out.law.x.mem 0 1#64 (by decide) (by rw [HT.out.st.n]; decide) (Lib.hid HT.out.st.e)).mono ?_
                  rintro e w' hr'
                  obtain ⟨rfl, s2, rfl⟩ := hr'.over
                  clear hr'
                  obtain ⟨x, hx, hn⟩ := TwoAt.px (HT.out.over s2) hA hB (by omega)
                  have HPK := Lib.hid hx
                  have HNX := Lib.hid hn
                  clear hx hn
                  go_wp2_with fail
                  refine (lawPick (HT.out.law.over s2).x 0 1#64 x HPK).mono ?_
                  rintro e Y ⟨ra, cp', rfl, _, hL, hf⟩
                  obtain ⟨j', hT'⟩ := HNX.out Y hL hf
                  have HT2 := Lib.hid hT'
                  clear hL hf hT' HT HPK HNX
                  go_wp2
                  exact ⟨⟨k + 1, j', m, _, _, _, by omega, by go_num, HT2.out⟩, by simp [intOf]; omega⟩
                · have q9 : decide ((0 : Int) < ((k : Int).tmod 3)) = false := by rw [t1]; simp; omega
                  have q10 : ¬ ((0 : Int) < ((k : Int).tmod 3)) := by rw [t1]; omega
                  have q11 : ((k : Int).tmod 3) ≤ (0 : Int) := by rw [t1]; omega
                  go_wp2_with fail
                  refine (cap_int HT.out.law.x.mem 0 1#64 (by decide) (by rw [HT.out.st.n]; decide) (Lib.hid HT.out.st.e)).mono ?_
                  rintro e w' hr'
                  obtain ⟨rfl, s2, rfl⟩ := hr'.over
                  clear hr'
                  obtain ⟨x, hx, hn⟩ := TwoAt.py (HT.out.over s2) hA hB (by omega)
                  have HPK := Lib.hid hx
                  have HNX := Lib.hid hn
                  clear hx hn
                  go_wp2_with fail
                  refine (lawPick (HT.out.law.over s2).y 0 1#64 x HPK).mono ?_
                  rintro e Y ⟨ra, cp', rfl, _, hL, hf⟩
                  obtain ⟨m', hT'⟩ := HNX.out Y hL hf
                  have HT2 := Lib.hid hT'
                  clear hL hf hT' HT HPK HNX
                  go_wp2
                  exact ⟨⟨k + 1, j, m', _, _, _, by omega, by go_num, HT2.out⟩, by simp [intOf]; omega⟩
            · obtain rfl : k = P.length + 60 := by omega
              have q5 : decide (((P.length + 60 : Nat) : Int) < (P.length : Int) + 60) = false := by simp
              have q6 : ¬ (((P.length + 60 : Nat) : Int) < (P.length : Int) + 60) := by omega
              obtain rfl : j = 2 * A.length := by have h1 := HT.out.jA; have h2 := HT.out.jn; omega
              obtain rfl : m = B.length := by have h1 := HT.out.mB; have h2 := HT.out.mn; omega
              have hst := HT.out.st
              rw [show (2 * A.length + 1) / 2 = A.length by omega, List.take_length, List.take_length, HSM.out] at hst
              have HST := Lib.hid hst
              have HL := Lib.hid HT.out.law
              have HBX := Lib.hid (x_idle (M := M) HT.out.sx).2
              have HBY := Lib.hid HT.out.sy.1
              clear HT hst
              go_wp2_with fail
              refine (peek_int HL.out.x.mem 0 0 (U sm) (by decide) (by rw [HST.out.n]; decide) (by decide) (by show (0 : Int) < (M.sz 0 : Int); rw [HST.out.z]; decide) (Lib.hid (by show U (M.wd 0 0) = _; rw [HST.out.s]))).mono ?_
              rintro e w' hr'
              obtain ⟨rfl, s2, rfl⟩ := hr'.over
              clear hr'
              go_wp2_with fail
              refine (lawBusy (HL.out.over s2).x false HBX.out).mono ?_
              rintro e Y1 ⟨rfl, rfl⟩
              go_wp2_with fail
              refine (lawBusy (HL.out.over s2).y false HBY.out).mono ?_
              rintro e Y1 ⟨rfl, rfl⟩
              go_wp2_with fail
              refine (count_at (HL.out.over s2).x.mem (2 * (A.length : Int) + (B.length : Int)) (Lib.hid (by rw [HST.out.c]; omega))).mono ?_
              rintro e w' hr'
              obtain ⟨rfl, s3, rfl⟩ := hr'.over
              clear hr'
              go_wp2
              go_ret
              exact Ret.mk (by repeat (first | exact HL.out.x.ext | apply ext_over))

set_option maxRecDepth 8000 in
set_option maxHeartbeats 1000000 in
theorem threadTwo_great (n m k : Nat) (a0 b0 p0 : Option Addr) (ca cb cp : Nat) (w : World) (h : 20 < n ∨ 20 < m ∨ 60 < k) : Calls Try.prog 6 #[.slice a0 n ca, .slice b0 m cb, .slice p0 k cp] w (Ret (.bool true) w) := by
  go_enter Try.func6, Try.ntmps6
  go_wp2_with fail
  refine (awake_any _).mono ?_
  rintro e w' hr'
  obtain ⟨rfl, s, rfl⟩ := hr'.over
  clear hr'
  by_cases h1 : 20 < n
  · have q0 : decide (20 < (n : Int)) = true := by simp; omega
    go_wp2_with (go_at_call 8; refine (awake_any _).mono ?_; rintro e w' hr'; obtain ⟨rfl, s2, rfl⟩ := hr'.over; clear hr')
    go_ret
    exact Ret.mk (by repeat (first | exact ext_refl _ | apply ext_over))
  · have q0 : decide (20 < (n : Int)) = false := by simp; omega
    by_cases h2 : 20 < m
    · have q1 : decide (20 < (m : Int)) = true := by simp; omega
      go_wp2_with (go_at_call 8; refine (awake_any _).mono ?_; rintro e w' hr'; obtain ⟨rfl, s2, rfl⟩ := hr'.over; clear hr')
      go_ret
      exact Ret.mk (by repeat (first | exact ext_refl _ | apply ext_over))
    · have q1 : decide (20 < (m : Int)) = false := by simp; omega
      have q2 : decide (60 < (k : Int)) = true := by simp; omega
      go_wp2_with (go_at_call 8; refine (awake_any _).mono ?_; rintro e w' hr'; obtain ⟨rfl, s2, rfl⟩ := hr'.over; clear hr')
      go_ret
      exact Ret.mk (by repeat (first | exact ext_refl _ | apply ext_over))
theorem threadTwo_any (A B : List (BitVec 64)) (P : List Bool) (u v z : Value) (w : World) (hA : Bs w u A) (hB : Bs w v B) (hP : Bl w z P) : Calls Try.prog 6 #[u, v, z] w (Ret (.bool true) w) := by
  have HA := Lib.hid hA
  have HB := Lib.hid hB
  have HP := Lib.hid hP
  obtain ⟨a0, ca, rfl, _⟩ := hA
  obtain ⟨b0, cb, rfl, _⟩ := hB
  obtain ⟨p0, cp, rfl, _⟩ := hP
  by_cases h : A.length ≤ 20 ∧ B.length ≤ 20 ∧ P.length ≤ 60
  · exact threadTwo_small A B P a0 b0 p0 ca cb cp w h.1 h.2.1 h.2.2 HA HB HP
  · exact threadTwo_great A.length B.length P.length a0 b0 p0 ca cb cp w (by omega)

end Go.Proofs.Ythepcnffadjeaaa
