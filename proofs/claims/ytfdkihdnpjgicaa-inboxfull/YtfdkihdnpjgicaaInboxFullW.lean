/-
  InboxFull: the call's ways, walked. Conditions: those of each theorem.
-/
import Derived.Test.YtfdkihdnpjgicaaInboxUse
namespace Go.Proofs.Ytfdkihdnpjgicaa
open Go Go.RowKit Go.Conc

/-- The m ints from a on. -/
def seqI (a m : Nat) : List Value := (List.range' a m).map fun (x : Nat) => Value.int .i64 (x : Int)
theorem seqI_len (a m : Nat) : (seqI a m).length = m := by simp [seqI]
theorem seqI_put (a m : Nat) : seqI a m ++ [.int .i64 ((a + m : Nat) : Int)] = seqI a (m + 1) := by
  simp [seqI, List.range'_1_concat]
theorem seqI_take (a m : Nat) : seqI a (m + 1) = .int .i64 (a : Int) :: seqI (a + 1) m := by
  simp [seqI, List.range'_succ]

theorem seqI_next {p c n k : Nat} {V : World} (hn : 1 ≤ n) (h : BoxAt p c n (seqI (k + 1) (n - 1) ++ [.int .i64 ((n : Int) + (k : Int))]) V) : BoxAt p c n (seqI (k + 1) n) V := by
  have e : seqI (k + 1) n = seqI (k + 1) (n - 1) ++ [.int .i64 ((n : Int) + (k : Int))] := by
    have := seqI_put (k + 1) (n - 1)
    rw [show n - 1 + 1 = n by omega] at this
    rw [← this]
    congr 3
    omega
  rw [e]
  exact h

/-- The first loop. -/
def FullRel (lo n : Nat) (w : World) (i : Value) (wr : World) : Prop :=
  ∃ k : Nat, k ≤ n ∧ i = .int .i64 (k : Int) ∧ BoxAt (lo + 1) lo n (seqI 0 k) wr ∧ Ext w wr
/-- The second one. -/
def MoreRel (lo n m : Nat) (w : World) (i : Value) (wr : World) : Prop :=
  ∃ k : Nat, k ≤ m ∧ i = .int .i64 (k : Int) ∧ BoxAt (lo + 1) lo n (seqI k n) wr ∧ Ext w wr

set_option maxRecDepth 8000 in
set_option maxHeartbeats 1000000 in
theorem inboxFull_any (a m : Nat) (w : World) (ha : a ≤ 255) (hm : m ≤ 255) :
    Calls Try.prog 6 #[.int .u8 (a : Int), .int .u8 (m : Int)] w (Ret (.bool true) w) := by
  obtain ⟨n, hn⟩ : ∃ n, n = a + 1 := ⟨_, rfl⟩
  have HN := Lib.hid hn
  clear hn
  go_enter Try.func6, Try.ntmps6
  go_wp2_with (first
    | (go_at_call 7; refine (awake_any _).mono ?_; rintro e w' hr'; obtain ⟨rfl, s, rfl⟩ := hr'.over; clear hr')
    | (go_at_call 8; refine (new_int_at _ n (by rw [HN.out]; omega) (by rw [HN.out]; omega) (by rw [HN.out]; omega)).mono ?_; rintro e X ⟨rfl, hB, hX, hs⟩; have HB := Lib.hid hB; have HX := Lib.hid (ext_trans (over_below w s) hX); clear hB hX hs))
  have e1 : (1 : Int) + (a : Int) = (n : Int) := by rw [HN.out]; omega
  have e2 : (a : Int) + 1 = (n : Int) := by rw [HN.out]; omega
  have hn1 : 1 ≤ n := by rw [HN.out]; omega
  have hn2 : n ≤ 256 := by rw [HN.out]; omega
  try simp only [e1]
  try simp only [e2]
  clear e1 e2
  go_loopw [8] (fun i wr => FullRel (over w s).heap.size n w i wr) (fun i _ => ((n : Int) - intOf i).toNat)
  case atStart => exact ⟨0, Nat.zero_le _, rfl, HB.out, HX.out⟩
  case round =>
    clear HB HX
    obtain ⟨k, hk, rfl, hB, hx⟩ := hrel
    have HB := Lib.hid hB
    have HX := Lib.hid hx
    clear hB hx
    by_cases hlt : k < n
    · have q0 : decide ((k : Int) < (n : Int)) = true := by simp; omega
      go_wp2_with (go_at_call 12; refine (put_int_room HB.out (by rw [seqI_len]; omega) _).mono ?_; rintro e Y ⟨rfl, hB, hF, hs⟩; have HB2 := Lib.hid hB; have HY := Lib.hid (hF.below HX.out (over_size w s)); clear hB hF hs)
      exact ⟨⟨k + 1, by omega, by go_num, by rw [← seqI_put, Nat.zero_add]; exact HB2.out, HY.out⟩, by simp [intOf]; omega⟩
    · obtain rfl : n = k := by omega
      clear hlt hk
      have HB0 := HB
      have HX0 := HX
      go_wp2
      go_loopw [9] (fun i wr => MoreRel (over w s).heap.size n m w i wr) (fun i _ => ((m : Int) - intOf i).toNat)
      case atStart => exact ⟨0, Nat.zero_le _, rfl, HB.out, HX.out⟩
      case round =>
        clear HB HX HB0 HX0
        obtain ⟨k, hk, rfl, hB, hx⟩ := hrel
        have HB := Lib.hid hB
        have HX := Lib.hid hx
        clear hB hx
        by_cases hlt : k < m
        · have q1 : decide ((k : Int) < (m : Int)) = true := by simp; omega
          go_wp2_with fail
          refine (put_int_full HB.out (by rw [seqI_len]; omega) _).mono ?_
          rintro e Y ⟨rfl, rfl⟩
          go_wp2_with fail
          refine (len_int_at HB.out (n : Int) (by rw [seqI_len])).mono ?_
          rintro e Z ⟨rfl, rfl⟩
          go_wp2_with fail
          refine (take_int_some (.int .i64 (k : Int)) (q := seqI (k + 1) (n - 1)) (by rw [← seqI_take, show n - 1 + 1 = n by omega]; exact HB.out)).mono ?_
          rintro e Z ⟨rfl, hB, hF, hs⟩
          have HB3 := Lib.hid hB
          have HZ := Lib.hid (hF.below HX.out (over_size w s))
          clear hB hF hs
          go_wp2_with fail
          refine (put_int_room HB3.out (by rw [seqI_len]; omega) _).mono ?_
          rintro e V ⟨rfl, hB, hF, hs⟩
          have HB4 := Lib.hid hB
          have HV := Lib.hid (hF.below HZ.out (over_size w s))
          clear hB hF hs
          go_wp2
          exact ⟨⟨k + 1, by omega, by go_num, seqI_next hn1 HB4.out, HV.out⟩, by simp [intOf]; omega⟩
        · obtain rfl : k = m := by omega
          go_wp2_with fail
          refine (len_int_at HB.out (n : Int) (by rw [seqI_len])).mono ?_
          rintro e Z ⟨rfl, rfl⟩
          go_wp2_with fail
          refine (size_int HB.out).mono ?_
          rintro e Z ⟨rfl, rfl⟩
          go_wp2
          go_ret
          exact Ret.mk HX.out

end Go.Proofs.Ytfdkihdnpjgicaa
