/-
  ThreadOne: the call's ways, walked. Conditions: those of each theorem.
-/
import Derived.Test.YthepcnffadjeaaaThreadStaleW
namespace Go.Proofs.Ythepcnffadjeaaa
open Go Go.RowKit

/-- How many picks lists want. -/
def cost : List (List Acc) → Nat
  | [] => 0
  | l :: ls => max l.length 1 + cost ls
theorem cost_snoc (ls : List (List Acc)) (l : List Acc) : cost (ls ++ [l]) = cost ls + max l.length 1 := by
  induction ls with
  | nil => simp [cost]
  | cons a ls ih => simp only [List.cons_append, cost, ih]; omega
theorem cost_take (ls : List (List Acc)) (k : Nat) (hk : k < ls.length) : cost (ls.take (k + 1)) = cost (ls.take k) + max (lN ls k).length 1 := by
  rw [← lss_put ls k hk, cost_snoc]
theorem cost_drop (ls : List (List Acc)) (k : Nat) (hk : k < ls.length) : cost (ls.drop k) = max (lN ls k).length 1 + cost (ls.drop (k + 1)) := by
  rw [lss_take ls k hk, cost]
/-- Where a worker is: d lists are done, rem picks are wanted at the most. -/
structure OneSt (ls : List (List Acc)) (d rem : Nat) (M : MS) (S : WS) : Prop where
  m8 : Mem8 M
  sh : (S.busy = false ∧ S.q = ls.drop d ∧ rem = cost (ls.drop d)) ∨ (S.busy = true ∧ d < ls.length ∧ S.q = ls.drop (d + 1) ∧ S.t.length + S.l.length = (lN ls d).length ∧ rem = max S.l.length 1 + cost (ls.drop (d + 1)))
/-- What a pick may come to. -/
structure OneP (ls : List (List Acc)) (d rem : Nat) (M : MS) (x : MS × WS × Nat × List (BitVec 64)) (d' c rem' : Nat) : Prop where
  st : OneSt ls d' rem' x.1 x.2.1
  less : rem' < rem
  ct : x.1.ct = if c = 0 then M.ct else wrap64 (M.ct + 1)
  way : (x.2.2.1 = 1 ∧ c = 1 ∧ d' = d ∧ x.2.2.2.length = 0) ∨ (x.2.2.1 = 3 ∧ c = 0 ∧ d' = d + 1 ∧ x.2.2.2.length = 0) ∨ (x.2.2.1 = 2 ∧ c = 0 ∧ d' = d + 1 ∧ x.2.2.2.length = (lN ls d).length) ∨ (x.2.2.1 = 2 ∧ c = 1 ∧ d' = d + 1 ∧ x.2.2.2.length = (lN ls d).length)
theorem one_go {ls : List (List Acc)} {d rem : Nat} {M : MS} {S : WS} (m8 : Mem8 M) (hb : S.busy = true) (hd : d < ls.length) (hq : S.q = ls.drop (d + 1)) (ht : S.t.length + S.l.length = (lN ls d).length) (hr : rem = max S.l.length 1 + cost (ls.drop (d + 1))) :
    ∃ d' c rem', OneP ls d rem M (goF 0 1#64 M S) d' c rem' := by
  have rest : ∀ M', Mem8 M' → OneSt ls (d + 1) (cost (ls.drop (d + 1))) M' S.rest := fun M' h => ⟨h, .inl ⟨rfl, hq, rfl⟩⟩
  have hless : cost (ls.drop (d + 1)) < rem := by omega
  cases hl : S.l with
  | nil =>
    rw [goF_nil hl]
    rw [hl] at ht
    exact ⟨d + 1, 0, _, rest M m8, hless, rfl, .inr (.inr (.inl ⟨rfl, rfl, rfl, ht⟩))⟩
  | cons a l =>
    rw [hl] at ht hr
    by_cases hdo : DoOk M 0 1#64 a.op a.at_
    · cases l with
      | nil =>
        rw [goF_last hl hdo]
        refine ⟨d + 1, 1, _, rest _ (m8.done _ _ _ _ _), hless, rfl, .inr (.inr (.inr ⟨rfl, rfl, rfl, ?_⟩))⟩
        simp at ht ⊢
        omega
      | cons a2 l =>
        rw [goF_step hl hdo]
        refine ⟨d, 1, max (a2 :: l).length 1 + cost (ls.drop (d + 1)), ⟨m8.done _ _ _ _ _, .inr ⟨hb, hd, hq, ?_, rfl⟩⟩, ?_, rfl, .inl ⟨rfl, rfl, rfl, rfl⟩⟩
        · simp at ht ⊢
          omega
        · rw [hr]
          simp only [List.length_cons]
          omega
    · rw [goF_no hl hdo]
      exact ⟨d + 1, 0, _, rest M m8, hless, rfl, .inr (.inl ⟨rfl, rfl, rfl, rfl⟩)⟩
theorem one_pick {ls : List (List Acc)} {d rem : Nat} {M : MS} {S : WS} (h : OneSt ls d rem M S) (hd : d < ls.length) : ∃ x d' c rem', pickF 0 1#64 M S = x ∧ OneP ls d rem M x d' c rem' := by
  rcases h.sh with ⟨hb, hq, hr⟩ | ⟨hb, _, hq, ht, hr⟩
  · rw [lss_take ls d hd] at hq
    obtain ⟨d', c, rem', hP⟩ := one_go (S := S.begin (lN ls d) (ls.drop (d + 1))) (rem := rem) h.m8 rfl hd rfl (by simp [WS.begin]) (by rw [hr, cost_drop ls d hd]; rfl)
    exact ⟨_, d', c, rem', pickF_begin hb hq, hP⟩
  · obtain ⟨d', c, rem', hP⟩ := one_go h.m8 hb hd hq ht hr
    exact ⟨_, d', c, rem', pickF_busy hb, hP⟩

def OneRel1 (D : Nat → Prop) (lo hi : Nat) (L : Lay) (q : Nat) (M : MS) (ls : List (List Acc)) (w : World) (p i : Value) (wr : World) : Prop :=
  ∃ k : Nat, k ≤ ls.length ∧ p = .int .i64 (cost (ls.take k) : Int) ∧ i = .int .i64 (k : Int) ∧ cost (ls.take k) ≤ 10 * k ∧ LawIn D lo hi L q M (waitS (ls.take k)) w wr
/-- The picks. -/
def OneRel2 (D : Nat → Prop) (lo hi : Nat) (L : Lay) (q : Nat) (ls : List (List Acc)) (w : World) (dn i : Value) (wr : World) : Prop :=
  ∃ (d k rem : Nat) (M : MS) (S : WS), dn = .int .i64 (d : Int) ∧ i = .int .i64 (k : Int) ∧ d ≤ ls.length ∧ k + rem ≤ cost ls ∧ 0 ≤ M.ct ∧ M.ct ≤ k ∧ OneSt ls d rem M S ∧ LawIn D lo hi L q M S w wr

set_option maxRecDepth 8000 in
set_option maxHeartbeats 4000000 in
theorem threadOne_small (ls : List (List Acc)) (a0 : Option Addr) (cap : Nat) (w : World) (hl : ls.length ≤ 20) (hA : Hid (Lss w (.slice a0 ls.length cap) ls)) : Calls Try.prog 4 #[.slice a0 ls.length cap] w (Ret (.bool true) w) := by
  have q0 : decide (20 < (ls.length : Int)) = false := by simp; omega
  go_enter Try.func4, Try.ntmps4
  go_wp2_with fail
  refine (awake_any _).mono ?_
  rintro e w' hr'
  obtain ⟨rfl, s, rfl⟩ := hr'.over
  clear hr'
  go_wp2_with fail
  refine (new_law [8] _ _ (over_below w s) rfl rfl ok8).mono ?_
  rintro e X ⟨lo, hi, L, rfl, hM, hX, hlo⟩
  have HM : Hid (MemIn lo hi L (M0 [8] 1) X) := Lib.hid hM
  have HX := Lib.hid hX
  obtain ⟨q, hq⟩ : ∃ q, X.heap.size = q := ⟨_, rfl⟩
  have htop : hi ≤ q := by rw [← hq]; exact hM.top
  have HQ := Lib.hid hq
  clear hM hX hq
  go_wp2_with fail
  refine (lawLists (PkD lo hi (q + 2) q) HM.out HX.out hlo q HQ.out 20 20 rfl (by decide) (by decide) (fun _ h => h) (fun k hk => by unfold PkD at hk; omega)).mono ?_
  rintro e X2 ⟨rfl, hL, _⟩
  have HL := Lib.hid hL
  clear hL HM HX HQ
  go_wp2
  go_loopw [7, 8] (fun p i wr => OneRel1 (PkD lo hi (q + 2) q) lo hi L q (M0 [8] 1) ls w p i wr) (fun p i _ => ((ls.length : Int) - intOf i).toNat)
  case atStart => exact ⟨0, Nat.zero_le _, rfl, rfl, Nat.le_refl _, HL.out⟩
  case round =>
    clear HL
    obtain ⟨k, hk, rfl, rfl, hco, hL⟩ := hrel
    have HL := Lib.hid hL
    clear hL
    by_cases hlt : k < ls.length
    · have q1 : decide ((k : Int) < (ls.length : Int)) = true := by simp; omega
      obtain ⟨b, o, rfl, hb, hcells⟩ := hA.out.at (by omega)
      obtain ⟨u, hc, hu⟩ := hcells k hlt
      obtain ⟨ua, ucap, rfl⟩ := ls_len hu
      have HU := Lib.hid hu
      have c0 := ext_cell HL.out.ext hc
      have lb := cell_lt c0
      have HCT := Lib.hid (cost_take ls k hlt)
      clear hc hcells hu
      generalize hcv : cost (ls.take k) = cv at hco HCT ⊢
      by_cases hlong : 10 < (lN ls k).length
      · have q2 : decide (10 < ((lN ls k).length : Int)) = true := by simp; omega
        go_wp2
        go_ret
        exact Ret.mk HL.out.ext
      · have q2 : decide (10 < ((lN ls k).length : Int)) = false := by simp; omega
        have hlv : (lN ls k).length ≤ 10 := by omega
        go_wp2_with fail
        all_goals
          refine (lawGive_room HL.out (lN ls k) _ (HU.out.ext HL.out.ext) (by omega) (by simp [waitS]; omega)).mono ?_
          rintro e Y ⟨rfl, hL, _⟩
          rw [waitS_give ls k hlt] at hL
          have HL2 := Lib.hid hL
          clear hL HL
          go_wp2
          refine ⟨⟨k + 1, by omega, ?_, by go_num, by rw [HCT.out]; omega, HL2.out⟩, by simp [intOf]; omega⟩
          rw [HCT.out]
          congr 1
          omega
    · obtain rfl : k = ls.length := by omega
      have q1 : decide ((ls.length : Int) < (ls.length : Int)) = false := by simp
      clear hlt hk
      rw [List.take_length] at HL hco ⊢
      have HCO : Hid (cost ls ≤ 10 * ls.length) := Lib.hid hco
      have hc200 : cost ls ≤ 200 := by omega
      obtain ⟨P, hP⟩ : ∃ P, P = cost ls := ⟨_, rfl⟩
      rw [← hP] at hc200 ⊢
      have HP := Lib.hid hP
      clear hP hco HCO
      go_wp2
      go_loopw [9, 10] (fun d i wr => OneRel2 (PkD lo hi (q + 2) q) lo hi L q ls w d i wr) (fun d i _ => ((P : Int) + 1 - intOf i).toNat)
      case atStart => exact ⟨0, 0, cost ls, _, _, rfl, rfl, Nat.zero_le _, by omega, by decide, by decide, ⟨Mem8.zero, .inl ⟨rfl, rfl, rfl⟩⟩, HL.out⟩
      case round =>
        clear HL
        obtain ⟨d, k, rem, M, S, rfl, rfl, hd, hrem, hc0, hc1, hst, hL⟩ := hrel
        rw [← HP.out] at hrem
        have HL := Lib.hid hL
        clear hL
        have q2 : decide ((k : Int) < (P : Int) + 1) = true := by simp; omega
        by_cases hlt : d < ls.length
        · have q3 : decide ((d : Int) < (ls.length : Int)) = true := by simp; omega
          obtain ⟨x, d', c, rem', hx, hp⟩ := one_pick hst hlt
          have HST := Lib.hid hst
          have HPK := Lib.hid hx
          have HPP := Lib.hid hp
          clear hx hp hst
          obtain ⟨b, o, rfl, hb, hcells⟩ := hA.out.at (by omega)
          obtain ⟨u, hc, hu⟩ := hcells d hlt
          obtain ⟨ua, ucap, rfl⟩ := ls_len hu
          clear hcells hu
          have HC := Lib.hid hc
          clear hc
          obtain ⟨c0, hc0'⟩ : ∃ c0, M.ct = c0 := ⟨_, rfl⟩
          rw [hc0'] at hc0 hc1
          have HCT := Lib.hid hc0'
          clear hc0'
          have hcc : c0 ≤ 300 := by omega
          go_wp2_with fail
          refine (count_at HL.out.mem c0 HCT).mono ?_
          rintro e w' hr'
          obtain ⟨rfl, s1, rfl⟩ := hr'.over
          clear hr'
          go_wp2_with fail
          refine (cap_int (HL.out.over s1).mem 0 1#64 (by decide) (by rw [HST.out.m8.n]; decide) (Lib.hid HST.out.m8.e)).mono ?_
          rintro e w' hr'
          obtain ⟨rfl, s2, rfl⟩ := hr'.over
          clear hr'
          go_wp2_with fail
          refine (lawPick (by first | exact (HL.out.over s1).over s2 | exact HL.out.over _) 0 1#64 x HPK).mono ?_
          rintro e Y ⟨ra, cp, rfl, _, hL, _⟩
          have HL2 := Lib.hid hL
          have cu := Lib.hid (ext_cell hL.ext HC.out)
          clear hL HL HPK HC
          obtain ⟨M', S', kd, R⟩ := x
          have hct : M'.ct = if c = 0 then c0 else c0 + 1 := by
            have h5 := HPP.out.ct
            rw [HCT.out] at h5
            simp only at h5
            rw [h5]
            split
            · rfl
            · unfold wrap64
              omega
          have hway := HPP.out.way
          have HS' := Lib.hid HPP.out.st
          have hless := HPP.out.less
          simp only at hway HL2 HS'
          clear HPP HST HCT
          rcases hway with ⟨rfl, rfl, rfl, hR⟩ | ⟨rfl, rfl, rfl, hR⟩ | ⟨rfl, rfl, rfl, hR⟩ | ⟨rfl, rfl, rfl, hR⟩
          all_goals
            simp only [if_true, Nat.one_ne_zero, if_false] at hct
            have HCT := Lib.hid hct
            clear hct
            simp only [hR]
            go_wp2_with fail
            refine (count_at (HL2.out.grow (ext_alloc _ (ext_refl _))).mem _ HCT).mono ?_
            rintro e Z ⟨rfl, hx⟩
            have HL3 := Lib.hid ((HL2.out.grow (ext_alloc _ (ext_refl _))).grow hx)
            have hev := (hx.block Y.heap.size (by simp)).trans (heap_at Y _ _ rfl)
            obtain ⟨e0, e1⟩ := two_cells hev
            have le := heap_lt hev
            replace cu := ext_cell hx (ext_cell (ext_alloc _ (ext_refl _)) cu.out)
            have lu := cell_lt cu
            clear hx hev HL2
            generalize Y.heap.size = bv at e0 e1 le ⊢
            go_wp2
            have ek : c0 + 1 - c0 = 1 := by omega
            try rw [ek]
            try rw [Int.sub_self]
            clear ek
            refine wp_region_over (by kernel_rfl) (by kernel_rfl) ?_
            repeat (go_big_quiet_step (fail))
            refine wpQuiet_nil ?_
            intro _ hw'
            obtain ⟨s3, hw''⟩ := hw'
            subst hw''
            have HL4 := Lib.hid (HL3.out.grow (over_below Z s3))
            have f0 := ext_cell (over_below Z s3) e0
            have lf := cell_lt f0
            clear e0 e1 le cu lu HL3
            generalize over Z s3 = Y4 at HL4 f0 lf ⊢
            go_wp2
            refine ⟨⟨_, k + 1, rem', _, _, by go_num, by go_num, by omega, by rw [← HP.out]; omega, ?_, ?_, HS'.out, HL4.out⟩, by simp [intOf]; omega⟩
            · rw [HCT.out]; omega
            · rw [HCT.out]; omega
        · obtain rfl : d = ls.length := by omega
          have q3 : decide ((ls.length : Int) < (ls.length : Int)) = false := by simp
          obtain ⟨hbz, hqz⟩ : S.busy = false ∧ S.q = [] := by
            rcases hst.sh with ⟨h1, h2, _⟩ | ⟨_, h2, _⟩
            · rw [List.drop_length] at h2
              exact ⟨h1, h2⟩
            · exact absurd h2 hlt
          have HBZ := Lib.hid hbz
          have HQZ := Lib.hid hqz
          have HST := Lib.hid hst
          clear hst hbz hqz hlt hd
          go_wp2_with fail
          refine (cap_int HL.out.mem 0 1#64 (by decide) (by rw [HST.out.m8.n]; decide) (Lib.hid HST.out.m8.e)).mono ?_
          rintro e w' hr'
          obtain ⟨rfl, s2, rfl⟩ := hr'.over
          clear hr'
          go_wp2_with fail
          refine (lawPick (HL.out.over s2) 0 1#64 _ (Lib.hid (pickF_idle HBZ.out HQZ.out))).mono ?_
          rintro e Y ⟨ra, cp, rfl, _, hL, _⟩
          have HL2 := Lib.hid hL
          clear hL HL
          simp only [List.length_nil] at HL2 ⊢
          go_wp2_with fail
          refine (lawBusy (HL2.out.grow (ext_alloc _ (ext_refl _))) false HBZ.out).mono ?_
          rintro e Y1 ⟨rfl, rfl⟩
          go_wp2_with fail
          refine (lawWaits (HL2.out.grow (ext_alloc _ (ext_refl _))) 0 (by rw [HQZ.out]; rfl)).mono ?_
          rintro e Y1 ⟨rfl, rfl⟩
          go_wp2
          go_ret
          exact Ret.mk (ext_alloc _ HL2.out.ext)

set_option maxRecDepth 8000 in
set_option maxHeartbeats 1000000 in
theorem threadOne_great (n : Nat) (a0 : Option Addr) (cap : Nat) (w : World) (h : 20 < n) : Calls Try.prog 4 #[.slice a0 n cap] w (Ret (.bool true) w) := by
  have q0 : decide (20 < (n : Int)) = true := by simp; omega
  go_enter Try.func4, Try.ntmps4
  go_wp2_with (go_at_call 8; refine (awake_any _).mono ?_; rintro e w' hr'; obtain ⟨rfl, s, rfl⟩ := hr'.over; clear hr')
  go_ret
  exact Ret.mk (by repeat (first | exact ext_refl _ | apply ext_over))
theorem threadOne_any (ls : List (List Acc)) (v : Value) (w : World) (h : Lss w v ls) : Calls Try.prog 4 #[v] w (Ret (.bool true) w) := by
  have h' := h
  obtain ⟨a0, cap, rfl, _⟩ := h
  by_cases hl : ls.length ≤ 20
  · exact threadOne_small ls a0 cap w hl (Lib.hid h')
  · exact threadOne_great ls.length a0 cap w (by omega)

end Go.Proofs.Ythepcnffadjeaaa
