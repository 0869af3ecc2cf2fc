/-
  InboxEither: the call's ways, walked. Conditions: those of each theorem.
-/
import Derived.Test.YtfdkihdnpjgicaaInboxUse
namespace Go.Proofs.Ytfdkihdnpjgicaa
open Go Go.RowKit Go.Conc

section
variable {pa ca na pb cb nb : Nat} {qa qb : List Value} {w : World}
set_option maxHeartbeats 400000 in
theorem either_one (v : Value) (h : BoxAt pa ca na (v :: qa) w) :
    Calls Try.prog 14 #[.pointer (some ⟨pa, 0, none⟩), .pointer (some ⟨pb, 0, none⟩)] w (RetQ pa ca na qa (.tuple #[v, .int .i64 1]) w) := by
  go_enter Try.func14, Try.ntmps14
  go_wp2_with fail
  refine (take_int_some v h).mono ?_
  rintro e Y ⟨rfl, hB, hF, hs⟩
  have HB := Lib.hid hB
  have HF := Lib.hid hF
  have HS := Lib.hid hs
  clear hB hF hs h
  go_wp2
  go_ret2
  exact ⟨rfl, HB.out, HF.out, HS.out⟩
set_option maxHeartbeats 400000 in
theorem either_two (v : Value) (h : BoxAt pa ca na [] w) (h' : BoxAt pb cb nb (v :: qb) w) :
    Calls Try.prog 14 #[.pointer (some ⟨pa, 0, none⟩), .pointer (some ⟨pb, 0, none⟩)] w (RetQ pb cb nb qb (.tuple #[v, .int .i64 2]) w) := by
  go_enter Try.func14, Try.ntmps14
  go_wp2_with fail
  refine (take_int_none h).mono ?_
  rintro e Y ⟨rfl, rfl⟩
  go_wp2_with fail
  refine (take_int_some v h').mono ?_
  rintro e Y ⟨rfl, hB, hF, hs⟩
  have HB := Lib.hid hB
  have HF := Lib.hid hF
  have HS := Lib.hid hs
  clear hB hF hs h
  go_wp2
  go_ret2
  exact ⟨rfl, HB.out, HF.out, HS.out⟩
set_option maxHeartbeats 400000 in
theorem either_none (h : BoxAt pa ca na [] w) (h' : BoxAt pb cb nb [] w) :
    Calls Try.prog 14 #[.pointer (some ⟨pa, 0, none⟩), .pointer (some ⟨pb, 0, none⟩)] w fun e w' => e = .returned (.tuple #[.int .i64 0, .int .i64 0]) ∧ w = w' := by
  go_enter Try.func14, Try.ntmps14
  go_wp2_with fail
  refine (take_int_none h).mono ?_
  rintro e Y ⟨rfl, rfl⟩
  go_wp2_with fail
  refine (take_int_none h').mono ?_
  rintro e Y ⟨rfl, rfl⟩
  go_wp2
  go_ret2
  exact ⟨rfl, rfl⟩
end

/-- The two boxes of the law. -/
structure Two (lo : Nat) (qa qb : List Value) (w wr : World) : Prop where
  a : BoxAt (lo + 1) lo 40 qa wr
  b : BoxAt (lo + 3) (lo + 2) 40 qb wr
  ext : Ext w wr
theorem Two.onA {lo : Nat} {qa qb qa' : List Value} {w wr Y : World} (h : Two lo qa qb w wr) (hlo : w.heap.size ≤ lo) (hB : BoxAt (lo + 1) lo 40 qa' Y) (hF : Fr lo (lo + 1) wr Y) : Two lo qa' qb w Y :=
  ⟨hB, h.b.fr hF (by omega) (by omega), hF.below h.ext hlo⟩
theorem Two.onB {lo : Nat} {qa qb qb' : List Value} {w wr Y : World} (h : Two lo qa qb w wr) (hlo : w.heap.size ≤ lo) (hB : BoxAt (lo + 3) (lo + 2) 40 qb' Y) (hF : Fr (lo + 2) (lo + 2 + 1) wr Y) : Two lo qa qb' w Y :=
  ⟨h.a.fr hF (by omega) (by omega), hB, hF.below h.ext (by omega)⟩

def EiRel1 (lo : Nat) (l : List Int) (w : World) (i : Value) (wr : World) : Prop :=
  ∃ n : Nat, n ≤ l.length ∧ i = .int .i64 (n : Int) ∧ Two lo (vI (l.take n)) [] w wr
def EiRel2 (lo : Nat) (l k : List Int) (w : World) (i : Value) (wr : World) : Prop :=
  ∃ n : Nat, n ≤ k.length ∧ i = .int .i64 (n : Int) ∧ Two lo (vI l) (vI (k.take n)) w wr
def EiRel3 (lo : Nat) (l k : List Int) (w : World) (i : Value) (wr : World) : Prop :=
  ∃ n : Nat, n ≤ l.length + k.length ∧ i = .int .i64 (n : Int) ∧ Two lo (vI (l.drop n)) (vI (k.drop (n - l.length))) w wr

set_option maxRecDepth 8000 in
set_option maxHeartbeats 2000000 in
theorem inboxEither_small (l k : List Int) (a0 a1 : Option Addr) (c0 c1 : Nat) (w : World) (hl : l.length ≤ 40) (hk : k.length ≤ 40) (hU : Hid (Is w (.slice a0 l.length c0) l)) (hV : Hid (Is w (.slice a1 k.length c1) k)) :
    Calls Try.prog 4 #[.slice a0 l.length c0, .slice a1 k.length c1] w (Ret (.bool true) w) := by
  have q0 : decide (40 < (l.length : Int)) = false := by simp; omega
  have q1 : decide (40 < (k.length : Int)) = false := by simp; omega
  go_enter Try.func4, Try.ntmps4
  go_wp2_with fail
  refine (awake_any _).mono ?_
  rintro e w' hr'
  obtain ⟨rfl, s, rfl⟩ := hr'.over
  clear hr'
  obtain ⟨lo, hlo⟩ : ∃ lo, (over w s).heap.size = lo := ⟨_, rfl⟩
  have hwl : w.heap.size ≤ lo := by rw [← hlo]; exact over_size w s
  have HLO := Lib.hid hlo
  clear hlo
  go_wp2_with fail
  refine (new_int_lo lo 40 40 rfl (by decide) (by decide) HLO.out).mono ?_
  rintro e X ⟨rfl, hB, hX, hs⟩
  have HA := Lib.hid hB
  have HX := Lib.hid (ext_trans (over_below w s) hX)
  have HS := Lib.hid hs
  clear hB hX hs HLO
  go_wp2_with fail
  refine (new_int_lo (lo + 2) 40 40 rfl (by decide) (by decide) HS.out).mono ?_
  rintro e Y ⟨rfl, hB, hX, hs⟩
  have HT : Hid (Two lo (vI (l.take 0)) [] w Y) := Lib.hid ⟨HA.out.ext hX, hB, ext_trans HX.out hX⟩
  clear hB hX hs HS HA HX
  go_wp2
  go_loopw [9] (fun i wr => EiRel1 lo l w i wr) (fun i _ => ((l.length : Int) - intOf i).toNat)
  case atStart => exact ⟨0, Nat.zero_le _, rfl, HT.out⟩
  case round =>
    clear HT
    obtain ⟨n, hn, rfl, hT⟩ := hrel
    have HT := Lib.hid hT
    clear hT
    by_cases hlt : n < l.length
    · have q2 : decide ((n : Int) < (l.length : Int)) = true := by simp; omega
      obtain ⟨b, o, rfl, hb, hcells⟩ := hU.out.at (by omega)
      have c0 := ext_cell HT.out.ext (hcells n hlt)
      clear hcells
      go_wp2_with (go_at_call 12; refine (put_int_room HT.out.a (by rw [vI_len, List.length_take]; omega) _).mono ?_; rintro e V ⟨rfl, hB, hF, hs⟩; have HT2 := Lib.hid (HT.out.onA hwl hB hF); clear hB hF hs)
      rw [vI_put l n hlt] at HT2
      exact ⟨⟨n + 1, by omega, by go_num, HT2.out⟩, by simp [intOf]; omega⟩
    · obtain rfl : n = l.length := by omega
      rw [List.take_length] at HT
      clear hlt hn
      go_wp2
      go_loopw [10] (fun i wr => EiRel2 lo l k w i wr) (fun i _ => ((k.length : Int) - intOf i).toNat)
      case atStart => exact ⟨0, Nat.zero_le _, rfl, HT.out⟩
      case round =>
        clear HT
        obtain ⟨n, hn, rfl, hT⟩ := hrel
        have HT := Lib.hid hT
        clear hT
        by_cases hlt : n < k.length
        · have q2 : decide ((n : Int) < (k.length : Int)) = true := by simp; omega
          obtain ⟨b, o, rfl, hb, hcells⟩ := hV.out.at (by omega)
          have c0 := ext_cell HT.out.ext (hcells n hlt)
          clear hcells
          go_wp2_with (go_at_call 12; refine (put_int_room HT.out.b (by rw [vI_len, List.length_take]; omega) _).mono ?_; rintro e V ⟨rfl, hB, hF, hs⟩; have HT2 := Lib.hid (HT.out.onB hwl hB hF); clear hB hF hs)
          rw [vI_put k n hlt] at HT2
          exact ⟨⟨n + 1, by omega, by go_num, HT2.out⟩, by simp [intOf]; omega⟩
        · obtain rfl : n = k.length := by omega
          rw [List.take_length] at HT
          clear hlt hn
          go_wp2
          go_loopw [11] (fun i wr => EiRel3 lo l k w i wr) (fun i _ => ((l.length : Int) + (k.length : Int) - intOf i).toNat)
          case atStart => exact ⟨0, Nat.zero_le _, rfl, by rw [Nat.zero_sub]; exact HT.out⟩
          case round =>
            clear HT
            obtain ⟨n, hn, rfl, hT⟩ := hrel
            have HT := Lib.hid hT
            clear hT
            by_cases hlt : n < l.length + k.length
            · have q2 : decide ((n : Int) < (l.length : Int) + (k.length : Int)) = true := by simp; omega
              by_cases h1 : n < l.length
              · have q3 : decide ((n : Int) < (l.length : Int)) = true := by simp; omega
                have q4 : decide ((l.length : Int) ≤ (n : Int)) = false := by simp; omega
                obtain ⟨b, o, rfl, hb, hcells⟩ := hU.out.at (by omega)
                have HC := Lib.hid (hcells n h1)
                clear hcells
                go_wp2_with fail
                refine (either_one (.int .i64 (iN l n)) (qa := vI (l.drop (n + 1))) (by rw [← vI_take l n h1]; exact HT.out.a)).mono ?_
                rintro e V ⟨rfl, hB, hF, hs⟩
                have HT2 := Lib.hid (HT.out.onA hwl hB hF)
                clear hB hF hs
                have c0 := ext_cell HT2.out.ext HC.out
                go_wp2
                exact ⟨⟨n + 1, by omega, by go_num, by rw [show n + 1 - l.length = n - l.length by omega]; exact HT2.out⟩, by simp [intOf]; omega⟩
              · have q3 : decide ((n : Int) < (l.length : Int)) = false := by simp; omega
                have q4 : decide ((l.length : Int) ≤ (n : Int)) = true := by simp; omega
                obtain ⟨m, hm⟩ : ∃ m, m = n - l.length := ⟨_, rfl⟩
                have hmk : m < k.length := by omega
                have e1 : (n : Int) - (l.length : Int) = (m : Int) := by omega
                have HM := Lib.hid hm
                rw [← hm, List.drop_eq_nil_of_le (show l.length ≤ n by omega)] at HT
                clear hm
                obtain ⟨b, o, rfl, hb, hcells⟩ := hV.out.at (by omega)
                have HC := Lib.hid (hcells m hmk)
                clear hcells
                go_wp2_with fail
                refine (either_two (.int .i64 (iN k m)) (qb := vI (k.drop (m + 1))) HT.out.a (by rw [← vI_take k m hmk]; exact HT.out.b)).mono ?_
                rintro e V ⟨rfl, hB, hF, hs⟩
                have HT2 := Lib.hid (HT.out.onB hwl hB hF)
                clear hB hF hs
                have c0 := ext_cell HT2.out.ext HC.out
                go_wp2
                exact ⟨⟨n + 1, by omega, by go_num, by rw [show n + 1 - l.length = m + 1 by have := HM.out; omega, List.drop_eq_nil_of_le (show l.length ≤ n + 1 by omega)]; exact HT2.out⟩, by simp [intOf]; omega⟩
            · have q2 : decide ((n : Int) < (l.length : Int) + (k.length : Int)) = false := by simp; omega
              rw [List.drop_eq_nil_of_le (show l.length ≤ n by omega), List.drop_eq_nil_of_le (show k.length ≤ n - l.length by omega)] at HT
              go_wp2_with fail
              refine (either_none HT.out.a HT.out.b).mono ?_
              rintro e V ⟨rfl, rfl⟩
              go_wp2_with fail
              refine (len_int_at HT.out.a 0 rfl).mono ?_
              rintro e V ⟨rfl, rfl⟩
              go_wp2_with fail
              refine (len_int_at HT.out.b 0 rfl).mono ?_
              rintro e V ⟨rfl, rfl⟩
              go_wp2
              go_ret
              exact Ret.mk HT.out.ext

set_option maxHeartbeats 400000 in
theorem inboxEither_great (n m : Nat) (a0 a1 : Option Addr) (c0 c1 : Nat) (w : World) (h : 40 < n ∨ 40 < m) :
    Calls Try.prog 4 #[.slice a0 n c0, .slice a1 m c1] w (Ret (.bool true) w) := by
  by_cases h0 : 40 < n
  · have q0 : decide (40 < (n : Int)) = true := by simp; omega
    go_enter Try.func4, Try.ntmps4
    go_wp2_with (go_at_call 7; refine (awake_any _).mono ?_; rintro e w' hr'; obtain ⟨rfl, s, rfl⟩ := hr'.over; clear hr')
    go_ret
    exact Ret.mk (by repeat (first | exact ext_refl _ | apply ext_over | apply ext_alloc))
  · have q0 : decide (40 < (n : Int)) = false := by simp; omega
    have q1 : decide (40 < (m : Int)) = true := by simp; omega
    go_enter Try.func4, Try.ntmps4
    go_wp2_with (go_at_call 7; refine (awake_any _).mono ?_; rintro e w' hr'; obtain ⟨rfl, s, rfl⟩ := hr'.over; clear hr')
    go_ret
    exact Ret.mk (by repeat (first | exact ext_refl _ | apply ext_over | apply ext_alloc))

theorem inboxEither_any (l k : List Int) (v v' : Value) (w : World) (hU : Is w v l) (hV : Is w v' k) : Calls Try.prog 4 #[v, v'] w (Ret (.bool true) w) := by
  have hU' := hU
  have hV' := hV
  obtain ⟨a0, c0, rfl, _⟩ := hU
  obtain ⟨a1, c1, rfl, _⟩ := hV
  by_cases h : l.length ≤ 40 ∧ k.length ≤ 40
  · exact inboxEither_small l k a0 a1 c0 c1 w h.1 h.2 (Lib.hid hU') (Lib.hid hV')
  · exact inboxEither_great _ _ a0 a1 c0 c1 w (by omega)

end Go.Proofs.Ytfdkihdnpjgicaa
