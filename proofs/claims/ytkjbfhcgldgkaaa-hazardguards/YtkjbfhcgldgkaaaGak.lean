/-
  A plan, and where its words are, in plain numbers. Conditions: those of each theorem.
-/
import Derived.Test.YtkjbfhcgldgkaaaGaj
import Derived.Deep.Cut
namespace Go.Proofs.Ytkjbfhcgldgkaaa
open Go Go.RowKit

/-- A plan's numbers. -/
structure Pl where
  n : Int
  t : Int
  r : Int
  d : Int
  b : Int
  g : Int
/-- It is formed. -/
def Pl.ok (p : Pl) : Prop := (1 ≤ p.n ∧ p.n ≤ 1048576) ∧ (1 ≤ p.t ∧ p.t ≤ 16) ∧ (3 * p.t + 1 ≤ p.r ∧ p.r ≤ 1024) ∧ (0 ≤ p.d ∧ p.d ≤ 64) ∧ (1 ≤ p.b ∧ p.b ≤ 256) ∧ (1 ≤ p.g ∧ p.g ≤ 1073741823)
instance plOkDec (p : Pl) : Decidable p.ok := by unfold Pl.ok; infer_instance
/-- The cells of a domain. -/
def Pl.c (p : Pl) : Int := if 2 < p.b then p.b else 2
theorem Pl.c_le (p : Pl) : 2 ≤ p.c := by unfold Pl.c; split <;> omega
theorem Pl.c_ge (p : Pl) (h : p.b ≤ 256) : p.c ≤ 256 := by unfold Pl.c; split <;> omega
/-- Where a domain's, a thread's, a node's words begin. -/
def Pl.dom (p : Pl) (x : Int) : Int := 1 + x * (1 + p.c)
def Pl.haz (p : Pl) (x : Int) : Int := p.dom p.d + x * 3
def Pl.cnt (p : Pl) (x : Int) : Int := p.haz p.t + x * (1 + p.r)
def Pl.nod (p : Pl) (x : Int) : Int := p.cnt p.t + x * 5
/-- The same, as they are reckoned. -/
def Pl.domW (p : Pl) (x : Int) : Int := wrap64 (1 + wrap64 (x * wrap64 (1 + p.c)))
def Pl.hazW (p : Pl) (x : Int) : Int := wrap64 (p.domW p.d + wrap64 (x * 3))
def Pl.cntW (p : Pl) (x : Int) : Int := wrap64 (p.hazW p.t + wrap64 (x * wrap64 (1 + p.r)))
def Pl.nodW (p : Pl) (x : Int) : Int := wrap64 (p.cntW p.t + wrap64 (x * 5))

theorem mul_in {x y a b : Int} (h0 : 0 ≤ x) (h1 : x ≤ a) (h2 : 0 ≤ y) (h3 : y ≤ b) : 0 ≤ x * y ∧ x * y ≤ a * b :=
  ⟨Int.mul_nonneg h0 h2, Int.mul_le_mul h1 h3 h2 (Int.le_trans h0 h1)⟩
theorem Pl.dom_b {p : Pl} (h : p.ok) {x : Int} (h0 : 0 ≤ x) (h1 : x ≤ p.d) : 0 ≤ x * (1 + p.c) ∧ x * (1 + p.c) ≤ 16448 := by
  have hc := p.c_le
  unfold Pl.ok at h
  have hc' := p.c_ge (by omega)
  have := mul_in (x := x) (y := 1 + p.c) (a := 64) (b := 257) h0 (by omega) (by omega) (by omega)
  omega
theorem Pl.cnt_b {p : Pl} (h : p.ok) {x : Int} (h0 : 0 ≤ x) (h1 : x ≤ p.t) : 0 ≤ x * (1 + p.r) ∧ x * (1 + p.r) ≤ 16400 := by
  unfold Pl.ok at h
  have := mul_in (x := x) (y := 1 + p.r) (a := 16) (b := 1025) h0 (by omega) (by omega) (by omega)
  omega
theorem Pl.domW_eq {p : Pl} (h : p.ok) {x : Int} (h0 : 0 ≤ x) (h1 : x ≤ p.d) : p.domW x = p.dom x := by
  have hb := Pl.dom_b h h0 h1
  have hc := p.c_le
  have hc' := p.c_ge (by unfold Pl.ok at h; omega)
  unfold Pl.domW Pl.dom
  rw [IntWalk.wrap64_in (1 + p.c) (by omega), IntWalk.wrap64_in (x * (1 + p.c)) (by omega), IntWalk.wrap64_in _ (by omega)]
theorem Pl.dom_in {p : Pl} (h : p.ok) {x : Int} (h0 : 0 ≤ x) (h1 : x ≤ p.d) : 1 ≤ p.dom x ∧ p.dom x ≤ 16449 := by
  have hb := Pl.dom_b h h0 h1
  unfold Pl.dom
  omega
theorem Pl.d_in {p : Pl} (h : p.ok) : 0 ≤ p.d ∧ p.d ≤ p.d := by unfold Pl.ok at h; omega
theorem Pl.t_in {p : Pl} (h : p.ok) : 0 ≤ p.t ∧ p.t ≤ p.t := by unfold Pl.ok at h; omega
theorem Pl.hazW_eq {p : Pl} (h : p.ok) {x : Int} (h0 : 0 ≤ x) (h1 : x ≤ p.t) : p.hazW x = p.haz x := by
  have hd := Pl.dom_in h (Pl.d_in h).1 (Pl.d_in h).2
  unfold Pl.hazW Pl.haz
  rw [Pl.domW_eq h (Pl.d_in h).1 (Pl.d_in h).2]
  unfold Pl.ok at h
  rw [IntWalk.wrap64_in (x * 3) (by omega), IntWalk.wrap64_in _ (by omega)]
theorem Pl.haz_in {p : Pl} (h : p.ok) {x : Int} (h0 : 0 ≤ x) (h1 : x ≤ p.t) : 1 ≤ p.haz x ∧ p.haz x ≤ 16497 := by
  have hd := Pl.dom_in h (Pl.d_in h).1 (Pl.d_in h).2
  unfold Pl.haz
  unfold Pl.ok at h
  omega
theorem Pl.cntW_eq {p : Pl} (h : p.ok) {x : Int} (h0 : 0 ≤ x) (h1 : x ≤ p.t) : p.cntW x = p.cnt x := by
  have hd := Pl.haz_in h (Pl.t_in h).1 (Pl.t_in h).2
  have hb := Pl.cnt_b h h0 h1
  unfold Pl.cntW Pl.cnt
  rw [Pl.hazW_eq h (Pl.t_in h).1 (Pl.t_in h).2]
  unfold Pl.ok at h
  rw [IntWalk.wrap64_in (1 + p.r) (by omega), IntWalk.wrap64_in (x * (1 + p.r)) (by omega), IntWalk.wrap64_in _ (by omega)]
theorem Pl.cnt_in {p : Pl} (h : p.ok) {x : Int} (h0 : 0 ≤ x) (h1 : x ≤ p.t) : 1 ≤ p.cnt x ∧ p.cnt x ≤ 32897 := by
  have hd := Pl.haz_in h (Pl.t_in h).1 (Pl.t_in h).2
  have hb := Pl.cnt_b h h0 h1
  unfold Pl.cnt
  omega
theorem Pl.nodW_eq {p : Pl} (h : p.ok) {x : Int} (h0 : 0 ≤ x) (h1 : x ≤ p.n) : p.nodW x = p.nod x := by
  have hd := Pl.cnt_in h (Pl.t_in h).1 (Pl.t_in h).2
  unfold Pl.nodW Pl.nod
  rw [Pl.cntW_eq h (Pl.t_in h).1 (Pl.t_in h).2]
  unfold Pl.ok at h
  rw [IntWalk.wrap64_in (x * 5) (by omega), IntWalk.wrap64_in _ (by omega)]
theorem Pl.nod_in {p : Pl} (h : p.ok) {x : Int} (h0 : 0 ≤ x) (h1 : x ≤ p.n) : 1 ≤ p.nod x ∧ p.nod x ≤ 5275777 := by
  have hd := Pl.cnt_in h (Pl.t_in h).1 (Pl.t_in h).2
  unfold Pl.nod
  unfold Pl.ok at h
  omega

/-! What the calls answer. -/
def Pl.sizeF (p : Pl) : Int := if p.ok then p.nod p.n else 0
def Pl.cellsF (p : Pl) : Int := if p.ok then p.c else 0
def Pl.headF (p : Pl) : Int := if p.ok then 0 else -1
def Pl.kindF (p : Pl) (x : Int) : Int := if p.ok ∧ 0 ≤ x ∧ x < p.d then p.dom x else -1
def Pl.cellF (p : Pl) (x i : Int) : Int := if p.ok ∧ (0 ≤ x ∧ x < p.d) ∧ 0 ≤ i ∧ i < p.c then p.dom x + 1 + i else -1
def Pl.hazF (p : Pl) (x i : Int) : Int := if p.ok ∧ (0 ≤ x ∧ x < p.t) ∧ 0 ≤ i ∧ i < 3 then p.haz x + i else -1
def Pl.cntF (p : Pl) (x : Int) : Int := if p.ok ∧ 0 ≤ x ∧ x < p.t then p.cnt x else -1
def Pl.retF (p : Pl) (x i : Int) : Int := if p.ok ∧ (0 ≤ x ∧ x < p.t) ∧ 0 ≤ i ∧ i < p.r then p.cnt x + 1 + i else -1
def Pl.stF (p : Pl) (x : Int) : Int := if p.ok ∧ 0 ≤ x ∧ x < p.n then p.nod x else -1
def Pl.nxF (p : Pl) (x : Int) : Int := if p.ok ∧ 0 ≤ x ∧ x < p.n then p.nod x + 1 else -1
def Pl.fdF (p : Pl) (x i : Int) : Int := if p.ok ∧ (0 ≤ x ∧ x < p.n) ∧ 0 ≤ i ∧ i < 3 then p.nod x + 2 + i else -1

/-- All bounds are kept. -/
def Bd (l : List T3) : Prop := ∀ i, i < l.length → (tN l i).b ≤ (tN l i).a ∧ (tN l i).a ≤ (tN l i).c
theorem bd_nil : Bd [] := fun _ h => absurd h (Nat.not_lt_zero _)
theorem bd_cons (x : T3) (l : List T3) : Bd (x :: l) ↔ (x.b ≤ x.a ∧ x.a ≤ x.c) ∧ Bd l := by
  constructor
  · intro h
    exact ⟨h 0 (by simp), fun i hi => h (i + 1) (by simpa using hi)⟩
  · intro h i hi
    cases i with
    | zero => exact h.1
    | succ k => exact h.2 k (by simpa using hi)
/-- The bounds of a plan. -/
def Pl.bds (p : Pl) : List T3 := [⟨p.n, 1, 1048576⟩, ⟨p.t, 1, 16⟩, ⟨p.r, wrap64 (wrap64 (3 * p.t) + 1), 1024⟩, ⟨p.d, 0, 64⟩, ⟨p.b, 1, 256⟩, ⟨p.g, 1, 1073741823⟩]
theorem Pl.bds_ok (p : Pl) : Bd p.bds ↔ p.ok := by
  unfold Pl.bds Pl.ok
  simp only [bd_cons, bd_nil, and_true]
  constructor
  · rintro ⟨h1, h2, h3, h4, h5, h6⟩
    rw [IntWalk.wrap64_in (3 * p.t) (by omega), IntWalk.wrap64_in _ (by omega)] at h3
    exact ⟨h1, h2, h3, h4, h5, h6⟩
  · rintro ⟨h1, h2, h3, h4, h5, h6⟩
    rw [IntWalk.wrap64_in (3 * p.t) (by omega), IntWalk.wrap64_in _ (by omega)]
    exact ⟨h1, h2, h3, h4, h5, h6⟩
/-- What place answers. -/
def PlaceSpec (p : Pl) (at_ : Int) (l : List T3) (r : Int) : Prop := (p.ok → Bd l → r = at_) ∧ (¬ (p.ok ∧ Bd l) → r = -1)
end Go.Proofs.Ytkjbfhcgldgkaaa

/-
  What the calls of package plan come to. Conditions: those of each theorem.
-/
namespace Go.Proofs.Ytkjbfhcgldgkaaa
open Go Go.RowKit

/-- The value of a plan. -/
abbrev plV (p : Pl) : Value := .agg #[.int .i64 p.n, .int .i64 p.t, .int .i64 p.r, .int .i64 p.d, .int .i64 p.b, .int .i64 p.g]

set_option maxHeartbeats 400000 in
theorem cells_any (p : Pl) (w : World) : Calls Try.prog 123 #[plV p] w (Ret (.int .i64 p.c) w) := by
  by_cases h : 2 < p.b
  · have e : p.c = p.b := by unfold Pl.c; rw [if_pos h]
    rw [e]
    clear e
    go_enter Try.func123, Try.ntmps123
    go_wp2
    go_ret
    exact Ret.mk (by repeat (first | exact ext_refl _ | apply ext_over | apply ext_alloc))
  · have e : p.c = 2 := by unfold Pl.c; rw [if_neg h]
    rw [e]
    clear e
    go_enter Try.func123, Try.ntmps123
    go_wp2
    go_ret
    exact Ret.mk (by repeat (first | exact ext_refl _ | apply ext_over | apply ext_alloc))

set_option maxHeartbeats 400000 in
theorem domain_any (p : Pl) (x : Int) (w : World) : Calls Try.prog 102 #[plV p, .int .i64 x] w (Ret (.int .i64 (p.domW x)) w) := by
  go_enter Try.func102, Try.ntmps102
  go_wp2_with (go_at_call 123; refine (cells_any p _).mono ?_; rintro e w' hr; obtain ⟨rfl, s, rfl⟩ := hr.over; clear hr)
  go_ret
  exact Ret.int rfl (by repeat (first | exact ext_refl _ | apply ext_over | apply ext_alloc))

set_option maxHeartbeats 400000 in
theorem hazards_any (p : Pl) (x : Int) (w : World) : Calls Try.prog 60 #[plV p, .int .i64 x] w (Ret (.int .i64 (p.hazW x)) w) := by
  go_enter Try.func60, Try.ntmps60
  go_wp2_with (go_at_call 102; refine (domain_any p _ _).mono ?_; rintro e w' hr; obtain ⟨rfl, s, rfl⟩ := hr.over; clear hr)
  go_ret
  exact Ret.int rfl (by repeat (first | exact ext_refl _ | apply ext_over | apply ext_alloc))

set_option maxHeartbeats 400000 in
theorem pcount_any (p : Pl) (x : Int) (w : World) : Calls Try.prog 103 #[plV p, .int .i64 x] w (Ret (.int .i64 (p.cntW x)) w) := by
  go_enter Try.func103, Try.ntmps103
  go_wp2
  first | refine wp_region_over2 (by kernel_rfl) (by kernel_rfl) ?_ | refine wp_region_over (by kernel_rfl) (by kernel_rfl) ?_
  repeat (go_big_quiet_step ((go_at_call 60; exact over_call (hazards_any p _ _))))
  refine wpQuiet_nil ?_
  intro _ hw'
  obtain ⟨s, hw''⟩ := hw'
  subst hw''
  go_wp2
  go_ret
  exact Ret.int rfl (by repeat (first | exact ext_refl _ | apply ext_over | apply ext_alloc))

set_option maxHeartbeats 400000 in
theorem node_any (p : Pl) (x : Int) (w : World) : Calls Try.prog 62 #[plV p, .int .i64 x] w (Ret (.int .i64 (p.nodW x)) w) := by
  go_enter Try.func62, Try.ntmps62
  go_wp2_with (go_at_call 103; refine (pcount_any p _ _).mono ?_; rintro e w' hr; obtain ⟨rfl, s, rfl⟩ := hr.over; clear hr)
  go_ret
  exact Ret.int rfl (by repeat (first | exact ext_refl _ | apply ext_over | apply ext_alloc))

set_option maxHeartbeats 400000 in
theorem one_any (n m : Int) (w : World) : Calls Try.prog 61 #[.int .i64 n, .int .i64 m] w (Ret (.agg #[.int .i64 n, .int .i64 0, .int .i64 (wrap64 (m - 1))]) w) := by
  go_enter Try.func61, Try.ntmps61
  go_wp2
  exact bodyPost_ret (v := .agg #[.int .i64 n, .int .i64 0, .int .i64 (wrap64 (m - 1))]) (by simp [results, Try.results61, go_sem]) rfl (Ret.mk (by repeat (first | exact ext_refl _ | apply ext_over | apply ext_alloc)))

def BdTo (l : List T3) (k : Nat) : Prop := ∀ i, i < k → (tN l i).b ≤ (tN l i).a ∧ (tN l i).a ≤ (tN l i).c
set_option maxHeartbeats 400000 in
theorem within_any (l : List T3) (v : Value) (w : World) (r : Bool) (hr : Hid (r = true ↔ Bd l)) (hT : Ts w v l) (hl : l.length ≤ 6) :
    Calls Try.prog 101 #[v] w (Ret (.bool r) w) := by
  have HT := Lib.hid hT
  obtain ⟨a0, cap, rfl, hc, hcell⟩ := hT
  clear hcell
  go_enter Try.func101, Try.ntmps101
  go_wp2
  go_loopw [7] (fun i wr => ∃ k : Nat, k ≤ l.length ∧ i = .int .i64 (k : Int) ∧ BdTo l k ∧ Ext w wr) (fun i _ => (l.length - intOf i).toNat)
  case atStart => exact ⟨0, Nat.zero_le _, rfl, fun _ h => absurd h (Nat.not_lt_zero _), ext_refl w⟩
  case round =>
    obtain ⟨k, hk, rfl, hf, hx⟩ := hrel
    have HF := Lib.hid hf
    have HX := Lib.hid hx
    clear hf hx
    by_cases hlt : k < l.length
    · obtain ⟨b, off, rfl, hb, hcells⟩ := (HT.out.ext HX.out).at (by omega)
      obtain ⟨c0, c1, c2⟩ := hcells k hlt
      clear hcells
      by_cases h0 : (tN l k).b ≤ (tN l k).a
      · by_cases h1 : (tN l k).a ≤ (tN l k).c
        · go_wp2
          refine ⟨⟨k + 1, by omega, by go_num, fun i hi => ?_, ext_alloc _ HX.out⟩, by simp [intOf]; omega⟩
          by_cases e : i = k
          · subst e; exact ⟨h0, h1⟩
          · exact HF.out i (by omega)
        · have h2 : (tN l k).c < (tN l k).a := by omega
          have E : Hid (false = r) := by
            refine Lib.hid ?_
            cases r with
            | false => rfl
            | true => exact absurd (hr.out.1 rfl k hlt).2 h1
          clear h1
          go_wp2
          go_ret
          exact Ret.bool E.out (ext_alloc _ HX.out)
      · have h2 : (tN l k).a < (tN l k).b := by omega
        have E : Hid (false = r) := by
          refine Lib.hid ?_
          cases r with
          | false => rfl
          | true => exact absurd (hr.out.1 rfl k hlt).1 h0
        clear h0
        go_wp2
        go_ret
        exact Ret.bool E.out (ext_alloc _ HX.out)
    · obtain rfl : k = l.length := by omega
      have E : Hid (true = r) := Lib.hid (hr.out.2 HF.out).symm
      go_wp2
      go_ret
      exact Ret.bool E.out HX.out

set_option maxHeartbeats 400000 in
theorem formed_any (p : Pl) (w : World) (r : Bool) (hr : Hid (r = true ↔ p.ok)) : Calls Try.prog 75 #[plV p] w (Ret (.bool r) w) := by
  have HR : Hid (r = true ↔ Bd p.bds) := Lib.hid (hr.out.trans p.bds_ok.symm)
  clear hr
  go_enter Try.func75, Try.ntmps75
  go_wp2_with fail
  refine (within_any p.bds _ _ r HR (ts_new _ _ _ _ _ _ (by simp) rfl rfl) (by show 6 ≤ 6; omega)).mono ?_
  rintro e w' hr'
  obtain ⟨rfl, s, rfl⟩ := hr'.over
  clear hr'
  go_wp2
  go_ret
  exact Ret.mk (by repeat (first | exact ext_refl _ | apply ext_over | apply ext_alloc))

set_option maxHeartbeats 400000 in
theorem place_any (p : Pl) (at_ : Int) (l : List T3) (v : Value) (w : World) (r : Int) (hr : Hid (PlaceSpec p at_ l r)) (hT : Ts w v l) (hl : l.length ≤ 6) :
    Calls Try.prog 59 #[plV p, .int .i64 at_, v] w (Ret (.int .i64 r) w) := by
  have HT := Lib.hid hT
  obtain ⟨a0, cap, rfl, hc, hcell⟩ := hT
  clear hcell
  by_cases hk : p.ok
  · have F := Lib.hid hk
    by_cases hb : Bd l
    · have E : Hid (at_ = r) := Lib.hid (hr.out.1 hk hb).symm
      have G := Lib.hid hb
      clear hk hb hr
      go_enter Try.func59, Try.ntmps59
      go_wp2_with (first | (go_at_call 75; refine (formed_any p _ true (hid_yes F.out)).mono ?_; rintro e w' hr; obtain ⟨rfl, s, rfl⟩ := hr.over; clear hr) | (go_at_call 101; refine (within_any l _ _ true (hid_yes G.out) (HT.out.ext (by repeat (first | exact ext_refl _ | apply ext_over | apply ext_alloc))) hl).mono ?_; rintro e w' hr; obtain ⟨rfl, s1, rfl⟩ := hr.over; clear hr))
      go_ret
      exact Ret.int E.out (by repeat (first | exact ext_refl _ | apply ext_over | apply ext_alloc))
    · have E : Hid (-1 = r) := Lib.hid (hr.out.2 fun h => hb h.2).symm
      have G := Lib.hid hb
      clear hk hb hr
      go_enter Try.func59, Try.ntmps59
      go_wp2_with (first | (go_at_call 75; refine (formed_any p _ true (hid_yes F.out)).mono ?_; rintro e w' hr; obtain ⟨rfl, s, rfl⟩ := hr.over; clear hr) | (go_at_call 101; refine (within_any l _ _ false (hid_no G.out) (HT.out.ext (by repeat (first | exact ext_refl _ | apply ext_over | apply ext_alloc))) hl).mono ?_; rintro e w' hr; obtain ⟨rfl, s1, rfl⟩ := hr.over; clear hr))
      go_ret
      exact Ret.int E.out (by repeat (first | exact ext_refl _ | apply ext_over | apply ext_alloc))
  · have E : Hid (-1 = r) := Lib.hid (hr.out.2 fun h => hk h.1).symm
    have F := Lib.hid hk
    clear hk hr
    go_enter Try.func59, Try.ntmps59
    go_wp2_with (go_at_call 75; refine (formed_any p _ false (hid_no F.out)).mono ?_; rintro e w' hr; obtain ⟨rfl, s, rfl⟩ := hr.over; clear hr)
    go_ret
    exact Ret.int E.out (by repeat (first | exact ext_refl _ | apply ext_over | apply ext_alloc))
end Go.Proofs.Ytkjbfhcgldgkaaa

/-
  What the calls of a plan that tell a place come to. Conditions: those of each theorem.
-/
namespace Go.Proofs.Ytkjbfhcgldgkaaa
open Go Go.RowKit

theorem PlaceSpec.mk {p : Pl} {at_ r : Int} {l : List T3} {q : Prop} [Decidable q] {y : Int} (hr : r = if p.ok ∧ q then y else -1) (h : p.ok → (Bd l ↔ q)) (he : p.ok → q → at_ = y) : PlaceSpec p at_ l r := by
  refine ⟨fun hk hb => ?_, fun hn => ?_⟩
  · have hq := (h hk).1 hb
    rw [hr, if_pos ⟨hk, hq⟩, he hk hq]
  · rw [hr, if_neg]
    rintro ⟨hk, hq⟩
    exact hn ⟨hk, (h hk).2 hq⟩
theorem most_of {x m : Int} (h0 : 0 ≤ m) (h1 : m ≤ 1048576) : (0 ≤ x ∧ x ≤ wrap64 (m - 1)) ↔ (0 ≤ x ∧ x < m) := by
  rw [IntWalk.wrap64_in (m - 1) (by omega)]
  omega
theorem Pl.lim {p : Pl} (h : p.ok) : (0 ≤ p.n ∧ p.n ≤ 1048576) ∧ (0 ≤ p.t ∧ p.t ≤ 1048576) ∧ (0 ≤ p.r ∧ p.r ≤ 1048576) ∧ (0 ≤ p.d ∧ p.d ≤ 1048576) ∧ (0 ≤ p.c ∧ p.c ≤ 1048576) := by
  have h1 := p.c_le
  unfold Pl.ok at h
  have h2 := p.c_ge (by omega)
  omega

theorem kind_spec (p : Pl) (x : Int) : PlaceSpec p (p.domW x) [⟨x, 0, wrap64 (p.d - 1)⟩] (p.kindF x) := by
  refine PlaceSpec.mk (by unfold Pl.kindF; rfl) (fun hk => ?_) (fun hk hq => ?_)
  · have hl := Pl.lim hk
    simp only [bd_cons, bd_nil, and_true]
    exact most_of hl.2.2.2.1.1 hl.2.2.2.1.2
  · exact Pl.domW_eq hk (by omega) (by omega)

theorem cell_spec (p : Pl) (x i : Int) : PlaceSpec p (wrap64 (wrap64 (p.domW x + 1) + i)) [⟨x, 0, wrap64 (p.d - 1)⟩, ⟨i, 0, wrap64 (p.c - 1)⟩] (p.cellF x i) := by
  refine PlaceSpec.mk (by unfold Pl.cellF; rfl) (fun hk => ?_) (fun hk hq => ?_)
  · have hl := Pl.lim hk
    simp only [bd_cons, bd_nil, and_true]
    exact and_congr (most_of hl.2.2.2.1.1 hl.2.2.2.1.2) (most_of hl.2.2.2.2.1 hl.2.2.2.2.2)
  · have hb := Pl.dom_in hk (x := x) (by omega) (by omega); have hl := Pl.lim hk; rw [Pl.domW_eq hk (by omega) (by omega), IntWalk.wrap64_in (p.dom x + 1) (by omega), IntWalk.wrap64_in _ (by omega)]

theorem hazard_spec (p : Pl) (x i : Int) : PlaceSpec p (wrap64 (p.hazW x + i)) [⟨x, 0, wrap64 (p.t - 1)⟩, ⟨i, 0, wrap64 2⟩] (p.hazF x i) := by
  refine PlaceSpec.mk (by unfold Pl.hazF; rfl) (fun hk => ?_) (fun hk hq => ?_)
  · have hl := Pl.lim hk
    simp only [bd_cons, bd_nil, and_true]
    exact and_congr (most_of hl.2.1.1 hl.2.1.2) ((show (0 ≤ i ∧ i ≤ wrap64 2) ↔ (0 ≤ i ∧ i < 3) by rw [IntWalk.wrap64_in 2 (by omega)]; omega))
  · have hb := Pl.haz_in hk (x := x) (by omega) (by omega); rw [Pl.hazW_eq hk (by omega) (by omega), IntWalk.wrap64_in _ (by omega)]

set_option maxHeartbeats 800000 in
theorem hazard_any (p : Pl) (x i : Int) (w : World) : Calls Try.prog 27 #[plV p, .int .i64 x, .int .i64 i] w (Ret (.int .i64 (p.hazF x i)) w) := by
  go_enter Try.func27, Try.ntmps27
  go_wp2
  refine wp_region_mix (fun w' => ∃ s, w' = over (w.alloc (.cells #[.int .i64 p.n, .int .i64 p.t, .int .i64 p.r, .int .i64 p.d, .int .i64 p.b, .int .i64 p.g] 23)) s) [(0, [0, 1, 2, 4, 6, 7, 8, 10]), (1, [3]), (0, [5]), (1, [9]), (1, [11]), (1, [12]), (1, [13]), (0, [14])] (by kernel_rfl) (by kernel_rfl) (over_of (ext_drew (ext_refl _))) ?_
  simp only [pieces, pickL, List.map_cons, List.map_nil, List.getD_cons_zero, List.getD_cons_succ]
  have HX0 := Lib.hid (ext_drew (ext_refl (w.alloc (.cells #[.int .i64 p.n, .int .i64 p.t, .int .i64 p.r, .int .i64 p.d, .int .i64 p.b, .int .i64 p.g] 23))))
  refine mix_reads ?_
  repeat (go_big_quiet_step (fail))
  refine wpQuiet_nil (mix_acts ?_)
  go_wp2_with (go_at_call 60; refine (hazards_any p x _).mono ?_; rintro e w1 ⟨rfl, hx⟩; have HX1 := Lib.hid (ext_trans HX0.out hx); clear hx)
  refine mixQ_mk (over_of HX1.out) (mix_reads ?_)
  repeat (go_big_quiet_step (fail))
  refine wpQuiet_nil (mix_acts ?_)
  go_wp2_with (go_at_call 61; refine (one_any x p.t _).mono ?_; rintro e w2 ⟨rfl, hx⟩; have HX2 := Lib.hid (ext_trans HX1.out hx); clear hx)
  refine mixQ_mk (over_of HX2.out) (mix_acts ?_)
  go_wp2_with (go_at_call 61; refine (one_any i 3 _).mono ?_; rintro e w3 ⟨rfl, hx⟩; have HX3 := Lib.hid (ext_trans HX2.out hx); clear hx)
  refine mixQ_mk (over_of HX3.out) (mix_acts ?_)
  go_wp2
  have HX4 := Lib.hid (ext_alloc (.cells #[.int .i64 x, .int .i64 0, .int .i64 (wrap64 (p.t - 1)), .int .i64 i, .int .i64 0, .int .i64 (wrap64 2)] 137) HX3.out)
  refine mixQ_mk (over_of HX4.out) (mix_acts ?_)
  go_wp2_with (go_at_call 59; refine (place_any p (wrap64 (p.hazW x + i)) [⟨x, 0, wrap64 (p.t - 1)⟩, ⟨i, 0, wrap64 2⟩] _ _ (p.hazF x i) (Lib.hid (hazard_spec p x i)) (ts_new _ _ _ _ _ _ rfl rfl rfl) (Nat.le_of_ble_eq_true rfl)).mono ?_; rintro e w5 ⟨rfl, hx⟩; have HX5 := Lib.hid (ext_trans HX4.out hx); clear hx)
  refine mixQ_mk (over_of HX5.out) (mix_reads ?_)
  repeat (go_big_quiet_step (fail))
  refine wpQuiet_nil (mix_end ?_)
  go_wp2
  go_ret
  exact Ret.mk (ext_trans (ext_alloc _ (ext_refl w)) HX5.out)

theorem cnt_spec (p : Pl) (x : Int) : PlaceSpec p (p.cntW x) [⟨x, 0, wrap64 (p.t - 1)⟩] (p.cntF x) := by
  refine PlaceSpec.mk (by unfold Pl.cntF; rfl) (fun hk => ?_) (fun hk hq => ?_)
  · have hl := Pl.lim hk
    simp only [bd_cons, bd_nil, and_true]
    exact most_of hl.2.1.1 hl.2.1.2
  · exact Pl.cntW_eq hk (by omega) (by omega)

theorem retired_spec (p : Pl) (x i : Int) : PlaceSpec p (wrap64 (wrap64 (p.cntW x + 1) + i)) [⟨x, 0, wrap64 (p.t - 1)⟩, ⟨i, 0, wrap64 (p.r - 1)⟩] (p.retF x i) := by
  refine PlaceSpec.mk (by unfold Pl.retF; rfl) (fun hk => ?_) (fun hk hq => ?_)
  · have hl := Pl.lim hk
    simp only [bd_cons, bd_nil, and_true]
    exact and_congr (most_of hl.2.1.1 hl.2.1.2) (most_of hl.2.2.1.1 hl.2.2.1.2)
  · have hb := Pl.cnt_in hk (x := x) (by omega) (by omega); have hl := Pl.lim hk; rw [Pl.cntW_eq hk (by omega) (by omega), IntWalk.wrap64_in (p.cnt x + 1) (by omega), IntWalk.wrap64_in _ (by omega)]

theorem state_spec (p : Pl) (x : Int) : PlaceSpec p (wrap64 (p.nodW x)) [⟨x, 0, wrap64 (p.n - 1)⟩] (p.stF x) := by
  refine PlaceSpec.mk (by unfold Pl.stF; rfl) (fun hk => ?_) (fun hk hq => ?_)
  · have hl := Pl.lim hk
    simp only [bd_cons, bd_nil, and_true]
    exact most_of hl.1.1 hl.1.2
  · have hb := Pl.nod_in hk (x := x) (by omega) (by omega); rw [Pl.nodW_eq hk (by omega) (by omega), IntWalk.wrap64_in _ (by omega)]

theorem next_spec (p : Pl) (x : Int) : PlaceSpec p (wrap64 (p.nodW x + 1)) [⟨x, 0, wrap64 (p.n - 1)⟩] (p.nxF x) := by
  refine PlaceSpec.mk (by unfold Pl.nxF; rfl) (fun hk => ?_) (fun hk hq => ?_)
  · have hl := Pl.lim hk
    simp only [bd_cons, bd_nil, and_true]
    exact most_of hl.1.1 hl.1.2
  · have hb := Pl.nod_in hk (x := x) (by omega) (by omega); rw [Pl.nodW_eq hk (by omega) (by omega), IntWalk.wrap64_in _ (by omega)]

set_option maxHeartbeats 800000 in
theorem next_any (p : Pl) (x : Int) (w : World) : Calls Try.prog 48 #[plV p, .int .i64 x] w (Ret (.int .i64 (p.nxF x)) w) := by
  go_enter Try.func48, Try.ntmps48
  go_wp2
  refine wp_region_mix (fun w' => ∃ s, w' = over (w.alloc (.cells #[.int .i64 p.n, .int .i64 p.t, .int .i64 p.r, .int .i64 p.d, .int .i64 p.b, .int .i64 p.g] 23)) s) [(0, [0, 1, 2, 5, 6, 7]), (1, [3]), (0, [4]), (1, [8]), (1, [9]), (1, [10]), (0, [11])] (by kernel_rfl) (by kernel_rfl) (over_of (ext_drew (ext_refl _))) ?_
  simp only [pieces, pickL, List.map_cons, List.map_nil, List.getD_cons_zero, List.getD_cons_succ]
  have HX0 := Lib.hid (ext_drew (ext_refl (w.alloc (.cells #[.int .i64 p.n, .int .i64 p.t, .int .i64 p.r, .int .i64 p.d, .int .i64 p.b, .int .i64 p.g] 23))))
  refine mix_reads ?_
  repeat (go_big_quiet_step (fail))
  refine wpQuiet_nil (mix_acts ?_)
  go_wp2_with (go_at_call 62; refine (node_any p x _).mono ?_; rintro e w1 ⟨rfl, hx⟩; have HX1 := Lib.hid (ext_trans HX0.out hx); clear hx)
  refine mixQ_mk (over_of HX1.out) (mix_reads ?_)
  repeat (go_big_quiet_step (fail))
  refine wpQuiet_nil (mix_acts ?_)
  go_wp2_with (go_at_call 61; refine (one_any x p.n _).mono ?_; rintro e w2 ⟨rfl, hx⟩; have HX2 := Lib.hid (ext_trans HX1.out hx); clear hx)
  refine mixQ_mk (over_of HX2.out) (mix_acts ?_)
  go_wp2
  have HX3 := Lib.hid (ext_alloc (.cells #[.int .i64 x, .int .i64 0, .int .i64 (wrap64 (p.n - 1))] 137) HX2.out)
  refine mixQ_mk (over_of HX3.out) (mix_acts ?_)
  go_wp2_with (go_at_call 59; refine (place_any p (wrap64 (p.nodW x + 1)) [⟨x, 0, wrap64 (p.n - 1)⟩] _ _ (p.nxF x) (Lib.hid (next_spec p x)) (ts_new _ _ _ _ _ _ rfl rfl rfl) (Nat.le_of_ble_eq_true rfl)).mono ?_; rintro e w4 ⟨rfl, hx⟩; have HX4 := Lib.hid (ext_trans HX3.out hx); clear hx)
  refine mixQ_mk (over_of HX4.out) (mix_reads ?_)
  repeat (go_big_quiet_step (fail))
  refine wpQuiet_nil (mix_end ?_)
  go_wp2
  go_ret
  exact Ret.mk (ext_trans (ext_alloc _ (ext_refl w)) HX4.out)

theorem field_spec (p : Pl) (x i : Int) : PlaceSpec p (wrap64 (wrap64 (p.nodW x + 2) + i)) [⟨x, 0, wrap64 (p.n - 1)⟩, ⟨i, 0, wrap64 2⟩] (p.fdF x i) := by
  refine PlaceSpec.mk (by unfold Pl.fdF; rfl) (fun hk => ?_) (fun hk hq => ?_)
  · have hl := Pl.lim hk
    simp only [bd_cons, bd_nil, and_true]
    exact and_congr (most_of hl.1.1 hl.1.2) ((show (0 ≤ i ∧ i ≤ wrap64 2) ↔ (0 ≤ i ∧ i < 3) by rw [IntWalk.wrap64_in 2 (by omega)]; omega))
  · have hb := Pl.nod_in hk (x := x) (by omega) (by omega); rw [Pl.nodW_eq hk (by omega) (by omega), IntWalk.wrap64_in (p.nod x + 2) (by omega), IntWalk.wrap64_in _ (by omega)]

set_option maxHeartbeats 800000 in
theorem field_any (p : Pl) (x i : Int) (w : World) : Calls Try.prog 28 #[plV p, .int .i64 x, .int .i64 i] w (Ret (.int .i64 (p.fdF x i)) w) := by
  go_enter Try.func28, Try.ntmps28
  go_wp2
  refine wp_region_mix (fun w' => ∃ s, w' = over (w.alloc (.cells #[.int .i64 p.n, .int .i64 p.t, .int .i64 p.r, .int .i64 p.d, .int .i64 p.b, .int .i64 p.g] 23)) s) [(0, [0, 1, 2, 5, 7, 8, 9, 11]), (1, [3]), (0, [4, 6]), (1, [10]), (1, [12]), (1, [13]), (1, [14]), (0, [15])] (by kernel_rfl) (by kernel_rfl) (over_of (ext_drew (ext_refl _))) ?_
  simp only [pieces, pickL, List.map_cons, List.map_nil, List.getD_cons_zero, List.getD_cons_succ]
  have HX0 := Lib.hid (ext_drew (ext_refl (w.alloc (.cells #[.int .i64 p.n, .int .i64 p.t, .int .i64 p.r, .int .i64 p.d, .int .i64 p.b, .int .i64 p.g] 23))))
  refine mix_reads ?_
  repeat (go_big_quiet_step (fail))
  refine wpQuiet_nil (mix_acts ?_)
  go_wp2_with (go_at_call 62; refine (node_any p x _).mono ?_; rintro e w1 ⟨rfl, hx⟩; have HX1 := Lib.hid (ext_trans HX0.out hx); clear hx)
  refine mixQ_mk (over_of HX1.out) (mix_reads ?_)
  repeat (go_big_quiet_step (fail))
  refine wpQuiet_nil (mix_acts ?_)
  go_wp2_with (go_at_call 61; refine (one_any x p.n _).mono ?_; rintro e w2 ⟨rfl, hx⟩; have HX2 := Lib.hid (ext_trans HX1.out hx); clear hx)
  refine mixQ_mk (over_of HX2.out) (mix_acts ?_)
  go_wp2_with (go_at_call 61; refine (one_any i 3 _).mono ?_; rintro e w3 ⟨rfl, hx⟩; have HX3 := Lib.hid (ext_trans HX2.out hx); clear hx)
  refine mixQ_mk (over_of HX3.out) (mix_acts ?_)
  go_wp2
  have HX4 := Lib.hid (ext_alloc (.cells #[.int .i64 x, .int .i64 0, .int .i64 (wrap64 (p.n - 1)), .int .i64 i, .int .i64 0, .int .i64 (wrap64 2)] 137) HX3.out)
  refine mixQ_mk (over_of HX4.out) (mix_acts ?_)
  go_wp2_with (go_at_call 59; refine (place_any p (wrap64 (wrap64 (p.nodW x + 2) + i)) [⟨x, 0, wrap64 (p.n - 1)⟩, ⟨i, 0, wrap64 2⟩] _ _ (p.fdF x i) (Lib.hid (field_spec p x i)) (ts_new _ _ _ _ _ _ rfl rfl rfl) (Nat.le_of_ble_eq_true rfl)).mono ?_; rintro e w5 ⟨rfl, hx⟩; have HX5 := Lib.hid (ext_trans HX4.out hx); clear hx)
  refine mixQ_mk (over_of HX5.out) (mix_reads ?_)
  repeat (go_big_quiet_step (fail))
  refine wpQuiet_nil (mix_end ?_)
  go_wp2
  go_ret
  exact Ret.mk (ext_trans (ext_alloc _ (ext_refl w)) HX5.out)

set_option maxHeartbeats 400000 in
theorem head_any (p : Pl) (w : World) : Calls Try.prog 45 #[plV p] w (Ret (.int .i64 p.headF) w) := by
  have HS : Hid (PlaceSpec p 0 [] p.headF) := Lib.hid ⟨fun h _ => by unfold Pl.headF; rw [if_pos h], fun h => by unfold Pl.headF; rw [if_neg fun hk => h ⟨hk, bd_nil⟩]⟩
  go_enter Try.func45, Try.ntmps45
  go_wp2_with (go_at_call 59; refine (place_any p 0 [] _ _ p.headF HS (ts_nil _) (by decide)).mono ?_; rintro e w' hr; obtain ⟨rfl, s, rfl⟩ := hr.over; clear hr)
  go_ret
  exact Ret.mk (by repeat (first | exact ext_refl _ | apply ext_over | apply ext_alloc))

set_option maxHeartbeats 400000 in
theorem size_any (p : Pl) (w : World) : Calls Try.prog 37 #[plV p] w (Ret (.int .i64 p.sizeF) w) := by
  by_cases hk : p.ok
  · have E : Hid (p.nodW p.n = p.sizeF) := Lib.hid (by unfold Pl.sizeF; rw [if_pos hk]; exact Pl.nodW_eq hk (by unfold Pl.ok at hk; omega) (Int.le_refl _))
    have F := Lib.hid hk
    clear hk
    go_enter Try.func37, Try.ntmps37
    go_wp2_with (first | (go_at_call 75; refine (formed_any p _ true (hid_yes F.out)).mono ?_; rintro e w' hr; obtain ⟨rfl, s, rfl⟩ := hr.over; clear hr) | (go_at_call 62; refine (node_any p p.n _).mono ?_; rintro e w' hr; obtain ⟨rfl, s1, rfl⟩ := hr.over; clear hr))
    go_ret
    exact Ret.int E.out (by repeat (first | exact ext_refl _ | apply ext_over | apply ext_alloc))
  · have E : Hid (0 = p.sizeF) := Lib.hid (by unfold Pl.sizeF; rw [if_neg hk])
    have F := Lib.hid hk
    clear hk
    go_enter Try.func37, Try.ntmps37
    go_wp2_with (go_at_call 75; refine (formed_any p _ false (hid_no F.out)).mono ?_; rintro e w' hr; obtain ⟨rfl, s, rfl⟩ := hr.over; clear hr)
    go_ret
    exact Ret.int E.out (by repeat (first | exact ext_refl _ | apply ext_over | apply ext_alloc))

end Go.Proofs.Ytkjbfhcgldgkaaa

/-
  What the calls of a plan come to, by an equation. Conditions: those of each theorem.
-/
namespace Go.Proofs.Ytkjbfhcgldgkaaa
open Go Go.RowKit

theorem head_is (p : Pl) (w : World) (r : Int) (h : Hid (p.headF  = r)) : Calls Try.prog 45 #[plV p] w (Ret (.int .i64 r) w) := by
  rw [← h.out]
  exact head_any p  w
theorem size_is (p : Pl) (w : World) (r : Int) (h : Hid (p.sizeF  = r)) : Calls Try.prog 37 #[plV p] w (Ret (.int .i64 r) w) := by
  rw [← h.out]
  exact size_any p  w
theorem hazard_is (p : Pl) (x i : Int) (w : World) (r : Int) (h : Hid (p.hazF x i = r)) : Calls Try.prog 27 #[plV p, .int .i64 x, .int .i64 i] w (Ret (.int .i64 r) w) := by
  rw [← h.out]
  exact hazard_any p x i w
theorem next_is (p : Pl) (x : Int) (w : World) (r : Int) (h : Hid (p.nxF x = r)) : Calls Try.prog 48 #[plV p, .int .i64 x] w (Ret (.int .i64 r) w) := by
  rw [← h.out]
  exact next_any p x w
theorem field_is (p : Pl) (x i : Int) (w : World) (r : Int) (h : Hid (p.fdF x i = r)) : Calls Try.prog 28 #[plV p, .int .i64 x, .int .i64 i] w (Ret (.int .i64 r) w) := by
  rw [← h.out]
  exact field_any p x i w

set_option maxHeartbeats 1000000 in
theorem rformed_any (p : Pl) (w : World) (r : Bool) (hr : Hid (r = true ↔ p.ok)) : Calls Try.prog 11 #[plV p] w (Ret (.bool r) w) := by
  go_enter Try.func11, Try.ntmps11
  go_wp2
  all_goals go_ret
  all_goals refine Ret.bool ?_ (by repeat (first | exact ext_refl _ | apply ext_over | apply ext_alloc))
  all_goals (have h := hr.out; unfold Pl.ok at h; cases r <;> simp only [Bool.false_eq_true, false_iff, true_iff] at h ⊢ <;> first | omega | (simp only [decide_eq_true_eq]; omega) | (simp only [decide_eq_false_iff_not]; omega))

/-- It is looked at. -/
def Pl.few (p : Pl) : Prop := p.ok → p.n ≤ 40 ∧ p.r ≤ 40 ∧ p.d ≤ 6 ∧ p.b ≤ 10
set_option maxHeartbeats 1000000 in
theorem few_any (p : Pl) (w : World) (r : Bool) (hr : Hid (r = true ↔ p.few)) : Calls Try.prog 10 #[plV p] w (Ret (.bool r) w) := by
  by_cases hk : p.ok
  · have F := Lib.hid hk
    have HR : Hid (r = true ↔ p.n ≤ 40 ∧ p.r ≤ 40 ∧ p.d ≤ 6 ∧ p.b ≤ 10) := Lib.hid (hr.out.trans ⟨fun h => h hk, fun h _ => h⟩)
    clear hk hr
    go_enter Try.func10, Try.ntmps10
    go_wp2_with (go_at_call 11; refine (rformed_any p _ true (hid_yes F.out)).mono ?_; rintro e w' hr; obtain ⟨rfl, s, rfl⟩ := hr.over; clear hr)
    all_goals go_ret
    all_goals refine Ret.bool ?_ (by repeat (first | exact ext_refl _ | apply ext_over | apply ext_alloc))
    all_goals (have h := HR.out; cases r <;> simp only [Bool.false_eq_true, false_iff, true_iff] at h ⊢ <;> first | omega | (simp only [decide_eq_true_eq]; omega) | (simp only [decide_eq_false_iff_not]; omega))
  · have F := Lib.hid hk
    have HR : Hid (true = r) := Lib.hid (hr.out.2 fun h => absurd h hk).symm
    clear hk hr
    go_enter Try.func10, Try.ntmps10
    go_wp2_with (go_at_call 11; refine (rformed_any p _ false (hid_no F.out)).mono ?_; rintro e w' hr; obtain ⟨rfl, s, rfl⟩ := hr.over; clear hr)
    go_ret
    exact Ret.bool HR.out (by repeat (first | exact ext_refl _ | apply ext_over | apply ext_alloc))

end Go.Proofs.Ytkjbfhcgldgkaaa

/-
  What the calls of package field (a field's Formed, Most, Get, Put, and the mask) and awake come to: contracts over the translation. Conditions: those of each theorem.
-/
namespace Go.Proofs.Ytkjbfhcgldgkaaa
open Go Go.RowKit

set_option maxHeartbeats 400000 in
theorem formed_yes (a b : Int) (w : World) (h : Fm a b) :
    Calls Try.prog 90 #[.agg #[.int .i64 a, .int .i64 b]] w (Ret (.bool true) w) := by
  obtain ⟨h1, h2, h3, h4⟩ := h
  go_enter Try.func90, Try.ntmps90
  go_wp2
  go_ret
  exact Ret.mk (by repeat (first | exact ext_refl _ | apply ext_over | apply ext_alloc))

set_option maxHeartbeats 400000 in
theorem formed_no (a b : Int) (w : World) (h : ¬ Fm a b) :
    Calls Try.prog 90 #[.agg #[.int .i64 a, .int .i64 b]] w (Ret (.bool false) w) := by
  unfold Fm at h
  by_cases h1 : 0 ≤ a
  · by_cases h2 : a < 64
    · by_cases h3 : 1 ≤ b
      · have h4 : decide (b ≤ 64 - a) = false := by simp; omega
        clear h
        go_enter Try.func90, Try.ntmps90
        go_wp2
        go_ret
        exact Ret.mk (by repeat (first | exact ext_refl _ | apply ext_over | apply ext_alloc))
      · clear h
        go_enter Try.func90, Try.ntmps90
        go_wp2
        go_ret
        exact Ret.mk (by repeat (first | exact ext_refl _ | apply ext_over | apply ext_alloc))
    · clear h
      go_enter Try.func90, Try.ntmps90
      go_wp2
      go_ret
      exact Ret.mk (by repeat (first | exact ext_refl _ | apply ext_over | apply ext_alloc))
  · clear h
    go_enter Try.func90, Try.ntmps90
    go_wp2
    go_ret
    exact Ret.mk (by repeat (first | exact ext_refl _ | apply ext_over | apply ext_alloc))

set_option maxHeartbeats 400000 in
theorem most_yes (a b : Int) (w : World) (h : Fm a b) :
    Calls Try.prog 120 #[.agg #[.int .i64 a, .int .i64 b]] w (Ret (.int .u64 (U (mostN b))) w) := by
  have ⟨h1, h2, h3, h4⟩ := h
  go_enter Try.func120, Try.ntmps120
  go_wp2_with (go_at_call 90; refine (formed_yes _ _ _ h).mono ?_; rintro e w' hr; obtain ⟨rfl, s, rfl⟩ := hr.over; clear hr)
  go_ret
  refine Ret.int ?_ (by repeat (first | exact ext_refl _ | apply ext_over | apply ext_alloc))
  rw [show (64 - b).toNat = 64 - b.toNat by omega, ones_shr, mostN_def, U_toNat]

set_option maxHeartbeats 400000 in
theorem most_no (a b : Int) (w : World) (h : ¬ Fm a b) :
    Calls Try.prog 120 #[.agg #[.int .i64 a, .int .i64 b]] w (Ret (.int .u64 0) w) := by
  go_enter Try.func120, Try.ntmps120
  go_wp2_with (go_at_call 90; refine (formed_no _ _ _ h).mono ?_; rintro e w' hr; obtain ⟨rfl, s, rfl⟩ := hr.over; clear hr)
  go_ret
  exact Ret.mk (by repeat (first | exact ext_refl _ | apply ext_over | apply ext_alloc))

set_option maxHeartbeats 400000 in
theorem mask_yes (a b : Int) (w : World) (h : Fm a b) :
    Calls Try.prog 91 #[.agg #[.int .i64 a, .int .i64 b]] w (Ret (.int .u64 (U (maskN a b))) w) := by
  have ⟨h1, h2, h3, h4⟩ := h
  go_enter Try.func91, Try.ntmps91
  go_wp2
  first | refine wp_region_over2 (by kernel_rfl) (by kernel_rfl) ?_ | refine wp_region_over (by kernel_rfl) (by kernel_rfl) ?_
  repeat (go_big_quiet_step ((go_at_call 120; exact over_call (most_yes _ _ _ h))))
  refine wpQuiet_nil ?_
  intro _ hw'
  obtain ⟨s, hw''⟩ := hw'
  subst hw''
  go_wp2
  go_ret
  exact Ret.int (by rw [maskN_def]) (by repeat (first | exact ext_refl _ | apply ext_over | apply ext_alloc))

set_option maxHeartbeats 400000 in
theorem get_no (a b : Int) (x : BitVec 64) (w : World) (h : ¬ Fm a b) :
    Calls Try.prog 44 #[.agg #[.int .i64 a, .int .i64 b], .int .u64 (U x)] w (Ret (.int .u64 0) w) := by
  go_enter Try.func44, Try.ntmps44
  go_wp2_with (go_at_call 90; refine (formed_no _ _ _ h).mono ?_; rintro e w' hr; obtain ⟨rfl, s, rfl⟩ := hr.over; clear hr)
  go_ret
  exact Ret.mk (by repeat (first | exact ext_refl _ | apply ext_over | apply ext_alloc))

set_option maxHeartbeats 400000 in
theorem get_yes (a b : Int) (x : BitVec 64) (w : World) (h : Fm a b) :
    Calls Try.prog 44 #[.agg #[.int .i64 a, .int .i64 b], .int .u64 (U x)] w (Ret (.int .u64 (U (getN a b x))) w) := by
  have ⟨h1, h2, h3, h4⟩ := h
  go_enter Try.func44, Try.ntmps44
  go_wp2_with (go_at_call 90; refine (formed_yes _ _ _ h).mono ?_; rintro e w' hr; obtain ⟨rfl, s, rfl⟩ := hr.over; clear hr)
  first | refine wp_region_over2 (by kernel_rfl) (by kernel_rfl) ?_ | refine wp_region_over (by kernel_rfl) (by kernel_rfl) ?_
  repeat (go_big_quiet_step ((go_at_call 91; exact over_call (mask_yes _ _ _ h))))
  refine wpQuiet_nil ?_
  intro _ hw'
  obtain ⟨s', hw''⟩ := hw'
  subst hw''
  go_wp2
  go_ret
  exact Ret.int (by rw [getN_def]) (by repeat (first | exact ext_refl _ | apply ext_over | apply ext_alloc))

set_option maxHeartbeats 400000 in
theorem put_no (a b : Int) (x v : BitVec 64) (w : World) (h : ¬ Fm a b) :
    Calls Try.prog 109 #[.agg #[.int .i64 a, .int .i64 b], .int .u64 (U x), .int .u64 (U v)] w (Ret (.int .u64 (U x)) w) := by
  go_enter Try.func109, Try.ntmps109
  go_wp2_with (go_at_call 90; refine (formed_no _ _ _ h).mono ?_; rintro e w' hr; obtain ⟨rfl, s, rfl⟩ := hr.over; clear hr)
  go_ret
  exact Ret.mk (by repeat (first | exact ext_refl _ | apply ext_over | apply ext_alloc))

set_option maxHeartbeats 400000 in
theorem put_yes (a b : Int) (x v : BitVec 64) (w : World) (h : Fm a b) :
    Calls Try.prog 109 #[.agg #[.int .i64 a, .int .i64 b], .int .u64 (U x), .int .u64 (U v)] w (Ret (.int .u64 (U (putN a b x v))) w) := by
  have ⟨h1, h2, h3, h4⟩ := h
  go_enter Try.func109, Try.ntmps109
  go_wp2_with (go_at_call 90; refine (formed_yes _ _ _ h).mono ?_; rintro e w' hr; obtain ⟨rfl, s, rfl⟩ := hr.over; clear hr)
  first | refine wp_region_over2 (by kernel_rfl) (by kernel_rfl) ?_ | refine wp_region_over (by kernel_rfl) (by kernel_rfl) ?_
  repeat (go_big_quiet_step ((go_at_call 91; exact over_call (mask_yes _ _ _ h))))
  refine wpQuiet_nil ?_
  intro _ hw'
  obtain ⟨s', hw''⟩ := hw'
  subst hw''
  go_wp2
  go_ret
  exact Ret.int (by rw [putN_def]) (by repeat (first | exact ext_refl _ | apply ext_over | apply ext_alloc))

theorem put_at (a b x v : Int) (X V : BitVec 64) (w : World) (h : Fm a b) (hx : x = U X) (hv : v = U V) :
    Calls Try.prog 109 #[.agg #[.int .i64 a, .int .i64 b], .int .u64 x, .int .u64 v] w (Ret (.int .u64 (U (putN a b X V))) w) := by
  subst hx hv
  exact put_yes a b X V w h

theorem fm48 : Fm 4 8 := ⟨by decide, by decide, by decide, by decide⟩
theorem most48 (w : World) : Calls Try.prog 120 #[.agg #[.int .i64 4, .int .i64 8]] w (Ret (.int .u64 255) w) :=
  U_most8 ▸ most_yes 4 8 w fm48
theorem get48 (w : World) : Calls Try.prog 44 #[.agg #[.int .i64 4, .int .i64 8], .int .u64 147] w (Ret (.int .u64 9) w) :=
  U_get48 ▸ U_147 ▸ get_yes 4 8 147#64 w fm48

theorem put_put (a b : Int) (w v u : BitVec 64) (h : Fm a b) : putN a b (putN a b w v) u = putN a b w u := by
  apply bv_eq; intro i hi
  simp only [putN_bit a b _ _ i h hi]; split <;> rfl
theorem put_get (a b : Int) (w : BitVec 64) (h : Fm a b) : putN a b w (getN a b w) = w := by
  apply bv_eq; intro i hi
  rw [putN_bit a b _ _ i h hi]
  split
  · rename_i e
    obtain ⟨h1, h2, h3, h4⟩ := h
    rw [getN_bit a b _ _ ⟨h1, h2, h3, h4⟩, show a.toNat + (i - a.toNat) = i by omega]
    have : ((i - a.toNat : Nat) : Int) < b := by omega
    simp [this]
  · rfl
theorem get_put (a b : Int) (w v : BitVec 64) (h : Fm a b) : getN a b (putN a b w v) = v &&& mostN b := by
  apply bv_eq; intro i hi
  rw [getN_bit a b _ _ h, BitVec.getLsbD_and, mostN_bit b i (by have := h.2.2.1; omega) (by have := h.1; have := h.2.2.2; omega), Bool.and_comm]
  by_cases e : (i : Int) < b
  · obtain ⟨h1, h2, h3, h4⟩ := h
    rw [putN_bit a b _ _ _ ⟨h1, h2, h3, h4⟩ (by omega), if_pos (by omega), show a.toNat + i - a.toNat = i by omega]
  · simp [e]

end Go.Proofs.Ytkjbfhcgldgkaaa
