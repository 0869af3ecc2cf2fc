/-
  InboxPlays: the call's ways, walked. Conditions: those of each theorem.
-/
import Derived.Test.YtfdkihdnpjgicaaInboxRef
import Derived.Test.YtfdkihdnpjgicaaVals
namespace Go.Proofs.Ytfdkihdnpjgicaa
open Go Go.RowKit Go.Conc

/-- The cells of a Call. -/
def callKd (j : Nat) : Kd := if j = 0 then some none else some (some .i64)
/-- The i-th call. -/
theorem call_at {w : World} {a0 : Option Addr} {m cap n : Nat} {x : Nat → Nat → Value} (h : Rv 2 callKd w (.slice a0 m cap) n x) (hl : 0 < n) : ∃ b off, a0 = some ⟨b, off, none⟩ ∧ b < w.heap.size ∧
    ∀ i, i < n → ∃ t y, w.cell? ⟨b, off + i * 2, none⟩ = some (.bool t) ∧ w.cell? ⟨b, off + i * 2 + 1, none⟩ = some (.int .i64 y) := by
  obtain ⟨b, off, ea, hb, hc⟩ := h.at hl
  refine ⟨b, off, ea, hb, fun i hi => ?_⟩
  have h0 := hc i hi 0 (by omega)
  have h1 := hc i hi 1 (by omega)
  obtain ⟨t, ht⟩ : ∃ t, x i 0 = .bool t := h0.2
  obtain ⟨y, hy, _⟩ : ∃ y, x i 1 = .int .i64 y ∧ _ := h1.2
  exact ⟨t, y, by rw [← ht]; exact h0.1, by rw [← hy]; exact h1.1⟩

/-- The loop. -/
def PlRel (lo n N : Nat) (w : World) (l i : Value) (wr : World) : Prop :=
  ∃ (k : Nat) (q : List Int), k ≤ N ∧ i = .int .i64 (k : Int) ∧ q.length ≤ k ∧ Is wr l q ∧ BoxAt (lo + 1) lo n (vI q) wr ∧ Ext w wr

set_option maxRecDepth 8000 in
set_option maxHeartbeats 4000000 in
theorem inboxPlays_small (n N : Nat) (x : Nat → Nat → Value) (a0 : Option Addr) (c0 : Nat) (w : World) (hn1 : 1 ≤ n) (hn2 : n ≤ 4096) (hN : N ≤ 80) (hU : Hid (Rv 2 callKd w (.slice a0 N c0) N x)) :
    Calls Try.prog 3 #[.int .i64 (n : Int), .slice a0 N c0] w (Ret (.bool true) w) := by
  have q0 : decide (80 < (N : Int)) = false := by simp; omega
  go_enter Try.func3, Try.ntmps3
  go_wp2_with fail
  refine (awake_any _).mono ?_
  rintro e w' hr'
  obtain ⟨rfl, s, rfl⟩ := hr'.over
  clear hr'
  obtain ⟨lo, hlo⟩ : ∃ lo, (over w s).heap.size = lo := ⟨_, rfl⟩
  have hwl : w.heap.size ≤ lo := by rw [← hlo]; exact over_size w s
  have HLO := Lib.hid hlo
  clear hlo
  go_wp2_with fail
  refine (new_int_lo lo (n : Int) n rfl hn1 hn2 HLO.out).mono ?_
  rintro e X ⟨rfl, hB, hX, hs⟩
  have HB := Lib.hid hB
  have HX := Lib.hid (ext_trans (over_below w s) hX)
  clear hB hX hs HLO
  go_wp2_with fail
  refine (size_int HB.out).mono ?_
  rintro e Z ⟨rfl, rfl⟩
  go_wp2
  go_loopw [7, 8] (fun l i wr => PlRel lo n N w l i wr) (fun _ i _ => ((N : Int) - intOf i).toNat)
  case atStart => exact ⟨0, [], Nat.zero_le _, rfl, Nat.le_refl _, ⟨none, 0, rfl, Nat.le_refl _, fun h => absurd h (Nat.not_lt_zero _)⟩, HB.out, HX.out⟩
  case round =>
    clear HB HX
    obtain ⟨k, q, hk, rfl, hq, hI, hB, hx⟩ := hrel
    have HI := Lib.hid hI
    have HB := Lib.hid hB
    have HX := Lib.hid hx
    clear hB hx
    obtain ⟨a1, c1, rfl, hqc, _⟩ := hI
    by_cases hlt : k < N
    · have q2 : decide ((k : Int) < (N : Int)) = true := by simp; omega
      obtain ⟨b, o, rfl, hb, hcells⟩ := call_at hU.out (by omega)
      obtain ⟨t, y, hc0, hc1⟩ := hcells k hlt
      have c0 := ext_cell HX.out hc0
      have C1 := Lib.hid (ext_cell HX.out hc1)
      clear hcells hc0 hc1
      cases t with
      | true =>
        cases q with
        | nil =>
          go_wp2_with fail
          refine (take_int_none HB.out).mono ?_
          rintro e Z ⟨rfl, rfl⟩
          go_wp2_with fail
          refine (len_int_at HB.out 0 rfl).mono ?_
          rintro e Z ⟨rfl, rfl⟩
          go_wp2
          exact ⟨⟨k + 1, [], by omega, by go_num, by simp, HI.out, HB.out, HX.out⟩, by simp [intOf]; omega⟩
        | cons z q =>
          simp only [List.length_cons] at hq hqc
          have q3 : decide (0 < (q.length : Int) + 1) = true := by simp
          go_wp2_with fail
          refine (take_int_some (.int .i64 z) (q := vI q) HB.out).mono ?_
          rintro e V ⟨rfl, hB, hF, hs⟩
          have HI2 := Lib.hid (HI.out.box HB.out hF)
          have HB2 := Lib.hid hB
          have HV := Lib.hid (hF.below HX.out hwl)
          clear hB hF hs
          obtain ⟨b1, o1, rfl, hb1, hcz⟩ := HI2.out.at (by simp)
          have cz : V.cell? ⟨b1, o1, none⟩ = some (.int .i64 z) := hcz 0 (by simp)
          have HCZ := Lib.hid hcz
          clear hcz
          go_wp2_with fail
          · rename_i hc1
            refine (len_int_at HB2.out (q.length : Int) (by rw [vI_len])).mono ?_
            rintro e Z ⟨rfl, rfl⟩
            go_wp2
            exact ⟨⟨k + 1, q, by omega, by go_num, by omega, ⟨_, _, rfl, by omega, fun hp => by omega⟩, HB2.out, HV.out⟩, by simp [intOf]; omega⟩
          · rename_i hc1
            refine (len_int_at HB2.out (q.length : Int) (by rw [vI_len])).mono ?_
            rintro e Z ⟨rfl, rfl⟩
            go_wp2
            refine ⟨⟨k + 1, q, by omega, by go_num, by omega, ⟨_, _, rfl, by omega, fun hp => ⟨b1, o1 + 1, rfl, hb1, fun i hi => ?_⟩⟩, HB2.out, HV.out⟩, by simp [intOf]; omega⟩
            have := HCZ.out (i + 1) (by simp; omega)
            rw [show o1 + 1 + i = o1 + (i + 1) by omega, this]
            rfl
      | false =>
        by_cases hfull : n ≤ q.length
        · have hfi : (n : Int) ≤ (q.length : Int) := by omega
          have c1 := C1.out
          go_wp2_with fail
          refine (rput_no q _ (n : Int) y wr HI.out hfi).mono ?_
          rintro e Z ⟨rfl, rfl⟩
          go_wp2_with fail
          refine (put_int_full HB.out (by rw [vI_len]; exact hfull) _).mono ?_
          rintro e Z ⟨rfl, rfl⟩
          go_wp2_with fail
          refine (len_int_at HB.out (q.length : Int) (by rw [vI_len])).mono ?_
          rintro e Z ⟨rfl, rfl⟩
          go_wp2
          exact ⟨⟨k + 1, q, by omega, by go_num, by omega, HI.out, HB.out, HX.out⟩, by simp [intOf]; omega⟩
        · have hfi : (q.length : Int) < (n : Int) := by omega
          have c1 := C1.out
          go_wp2_with fail
          refine (rput_yes q _ (n : Int) y wr HI.out hfi (by omega)).mono ?_
          rintro e V ⟨v', rfl, hI, hX⟩
          have HI2 := Lib.hid hI
          have HB2 := Lib.hid (HB.out.ext hX)
          have HV := Lib.hid (ext_trans HX.out hX)
          obtain ⟨a2, c2, rfl, hqc2, _⟩ := hI
          have c3 := ext_cell hX C1.out
          clear hX
          go_wp2_with fail
          refine (put_int_room HB2.out (by rw [vI_len]; omega) _).mono ?_
          rintro e Z ⟨rfl, hB, hF, hs⟩
          have HI3 := Lib.hid (HI2.out.box HB2.out hF)
          have HB3 := Lib.hid hB
          have HZ := Lib.hid (hF.below HV.out hwl)
          clear hB hF hs
          go_wp2_with fail
          refine (len_int_at HB3.out ((q.length : Int) + 1) (by rw [List.length_append, vI_len]; simp)).mono ?_
          rintro e Y ⟨rfl, rfl⟩
          go_wp2
          refine ⟨⟨k + 1, q ++ [y], by omega, by go_num, by simp; omega, ?_, ?_, HZ.out⟩, by simp [intOf]; omega⟩
          · have h3 := HI3.out
            simp only [List.length_append, List.length_cons, List.length_nil, Nat.zero_add] at h3
            exact h3
          · have h3 := HB3.out
            unfold vI at h3 ⊢
            rw [List.map_append]
            exact h3
    · have q2 : decide ((k : Int) < (N : Int)) = false := by simp; omega
      go_wp2
      go_ret
      exact Ret.mk HX.out

set_option maxHeartbeats 400000 in
theorem inboxPlays_great (z : Int) (N : Nat) (a0 : Option Addr) (c0 : Nat) (w : World) (h : 80 < N) :
    Calls Try.prog 3 #[.int .i64 z, .slice a0 N c0] w (Ret (.bool true) w) := by
  have q0 : decide (80 < (N : Int)) = true := by simp; omega
  go_enter Try.func3, Try.ntmps3
  go_wp2_with (go_at_call 7; refine (awake_any _).mono ?_; rintro e w' hr'; obtain ⟨rfl, s, rfl⟩ := hr'.over; clear hr')
  go_ret
  exact Ret.mk (by repeat (first | exact ext_refl _ | apply ext_over | apply ext_alloc))

set_option maxHeartbeats 1000000 in
theorem inboxPlays_arg (z : Int) (N : Nat) (a0 : Option Addr) (c0 : Nat) (w : World) (hN : N ≤ 80) (h : z < 1 ∨ 4096 < z) :
    Calls Try.prog 3 #[.int .i64 z, .slice a0 N c0] w (Ret (.bool true) w) := by
  have q0 : decide (80 < (N : Int)) = false := by simp; omega
  have H := Lib.hid h
  by_cases h1 : z < 1
  · have q1 : decide (z < 1) = true := by simp; omega
    clear h
    go_enter Try.func3, Try.ntmps3
    go_wp2_with (first
      | (go_at_call 7; refine (awake_any _).mono ?_; rintro e w' hr'; obtain ⟨rfl, s, rfl⟩ := hr'.over; clear hr')
      | (go_at_call 8; refine (new_int_no z H.out).mono ?_; rintro e w' ⟨rfl, rfl⟩))
    go_ret
    exact Ret.mk (by repeat (first | exact ext_refl _ | apply ext_over | apply ext_alloc))
  · have q1 : decide (z < 1) = false := by simp; omega
    have q2 : decide (4096 < z) = true := by simp; omega
    have h2 : 4096 < z := by omega
    clear h
    go_enter Try.func3, Try.ntmps3
    go_wp2_with (first
      | (go_at_call 7; refine (awake_any _).mono ?_; rintro e w' hr'; obtain ⟨rfl, s, rfl⟩ := hr'.over; clear hr')
      | (go_at_call 8; refine (new_int_no z H.out).mono ?_; rintro e w' ⟨rfl, rfl⟩))
    go_ret
    exact Ret.mk (by repeat (first | exact ext_refl _ | apply ext_over | apply ext_alloc))

theorem inboxPlays_any (z : Int) (N : Nat) (x : Nat → Nat → Value) (v : Value) (w : World) (hU : Rv 2 callKd w v N x) : Calls Try.prog 3 #[.int .i64 z, v] w (Ret (.bool true) w) := by
  have hU' := hU
  obtain ⟨a0, c0, rfl, _⟩ := hU
  by_cases h : N ≤ 80
  · by_cases hz : 1 ≤ z ∧ z ≤ 4096
    · obtain ⟨n, rfl⟩ := Int.eq_ofNat_of_zero_le (show 0 ≤ z by omega)
      exact inboxPlays_small n N x a0 c0 w (by omega) (by omega) h (Lib.hid hU')
    · exact inboxPlays_arg z N a0 c0 w h (by omega)
  · exact inboxPlays_great z N a0 c0 w (by omega)

end Go.Proofs.Ytfdkihdnpjgicaa
