/-
  InboxTexts: the call's ways, walked. Conditions: those of each theorem.
-/
import Derived.Test.YtfdkihdnpjgicaaInboxUse
import Derived.Test.YtfdkihdnpjgicaaInboxStr
import Derived.Test.YtfdkihdnpjgicaaStrs
namespace Go.Proofs.Ytfdkihdnpjgicaa
open Go Go.RowKit Go.Conc

theorem new_str_lo (lo : Nat) (x : Int) (n : Nat) (hx : x = n) (h1 : 1 ≤ n) (h2 : n ≤ 4096) {w : World} (hlo : w.heap.size = lo) : Calls Try.prog 15 #[.int .i64 x] w (RetL lo n w) := by
  subst hx hlo
  exact (new_str_yes n h1 h2).mono fun e w' h => ⟨h.e, h.box, h.ext, h.size⟩

/-- Texts as things. -/
def vS (l : List ByteArray) : List Value := l.map fun x => Value.string x
theorem vS_len (l : List ByteArray) : (vS l).length = l.length := by simp [vS]
theorem vS_put (l : List ByteArray) (k : Nat) (hk : k < l.length) : vS (l.take k) ++ [.string (sN l k)] = vS (l.take (k + 1)) := by
  rw [List.take_succ_eq_append_getElem hk, sN_get l k hk]
  unfold vS
  rw [List.map_append]
  rfl
theorem vS_take (l : List ByteArray) (k : Nat) (hk : k < l.length) : vS (l.drop k) = .string (sN l k) :: vS (l.drop (k + 1)) := by
  rw [List.drop_eq_getElem_cons hk, sN_get l k hk]
  rfl
theorem sN_of_take (l : List ByteArray) (n k : Nat) (hk : k < n) : sN (l.take n) k = sN l k := by
  unfold sN
  rw [List.getD_eq_getElem?_getD, List.getD_eq_getElem?_getD, List.getElem?_take, if_pos hk]

def TxRel1 (lo n : Nat) (l : List ByteArray) (w : World) (i : Value) (wr : World) : Prop :=
  ∃ k : Nat, k ≤ l.length ∧ i = .int .i64 (k : Int) ∧ BoxAt (lo + 1) lo n (vS ((l.take n).take k)) wr ∧ Ext w wr
def TxRel2 (lo n : Nat) (l : List ByteArray) (w : World) (i : Value) (wr : World) : Prop :=
  ∃ k : Nat, k ≤ (l.take n).length ∧ i = .int .i64 (k : Int) ∧ BoxAt (lo + 1) lo n (vS ((l.take n).drop k)) wr ∧ Ext w wr

set_option maxRecDepth 8000 in
set_option maxHeartbeats 2000000 in
theorem inboxTexts_small (l : List ByteArray) (a : Nat) (a0 : Option Addr) (c0 : Nat) (w : World) (ha : a ≤ 255) (hl : l.length ≤ 30) (hU : Hid (Ss w (.slice a0 l.length c0) l)) :
    Calls Try.prog 5 #[.slice a0 l.length c0, .int .u8 (a : Int)] w (Ret (.bool true) w) := by
  have q0 : decide (30 < (l.length : Int)) = false := by simp; omega
  go_enter Try.func5, Try.ntmps5
  go_wp2_with fail
  refine (awake_any _).mono ?_
  rintro e w' hr'
  obtain ⟨rfl, s, rfl⟩ := hr'.over
  clear hr'
  obtain ⟨lo, hlo⟩ : ∃ lo, (over w s).heap.size = lo := ⟨_, rfl⟩
  have hwl : w.heap.size ≤ lo := by rw [← hlo]; exact over_size w s
  have HLO := Lib.hid hlo
  clear hlo
  go_wp2_with fail
  obtain ⟨n, hn⟩ : ∃ n, n = 1 + a % 40 := ⟨_, rfl⟩
  have e1 : (1 : Int) + (a : Int) % 40 = (n : Int) := by omega
  have hn1 : 1 ≤ n := by omega
  have hn2 : n ≤ 40 := by omega
  clear hn
  simp only [e1]
  clear e1
  refine (new_str_lo lo (n : Int) n rfl hn1 (by omega) HLO.out).mono ?_
  rintro e X ⟨rfl, hB, hX, hs⟩
  have HB : Hid (BoxAt (lo + 1) lo n (vS ((l.take n).take 0)) X) := Lib.hid hB
  have HX := Lib.hid (ext_trans (over_below w s) hX)
  clear hB hX hs HLO
  go_wp2
  go_loopw [8] (fun i wr => TxRel1 lo n l w i wr) (fun i _ => ((l.length : Int) - intOf i).toNat)
  case atStart => exact ⟨0, Nat.zero_le _, rfl, HB.out, HX.out⟩
  case round =>
    clear HB HX
    obtain ⟨k, hk, rfl, hB, hx⟩ := hrel
    have HB := Lib.hid hB
    have HX := Lib.hid hx
    clear hB hx
    by_cases hlt : k < l.length
    · have q2 : decide ((k : Int) < (l.length : Int)) = true := by simp; omega
      obtain ⟨b, o, rfl, hb, hcells⟩ := hU.out.at (by omega)
      have c0 := ext_cell HX.out (hcells k hlt)
      clear hcells
      by_cases hkn : k < n
      · have q3 : decide ((k : Int) < (n : Int)) = true := by simp; omega
        have hkt : k < (l.take n).length := by rw [List.length_take]; omega
        go_wp2_with (go_at_call 16; refine (put_str_room HB.out (by rw [vS_len, List.length_take]; omega) _).mono ?_; rintro e V ⟨rfl, hB, hF, hs⟩; have HB2 := Lib.hid hB; have HY := Lib.hid (hF.below HX.out hwl); clear hB hF hs)
        rw [← sN_of_take l n k hkn, vS_put (l.take n) k hkt] at HB2
        exact ⟨⟨k + 1, by omega, by go_num, HB2.out, HY.out⟩, by simp [intOf]; omega⟩
      · have q3 : decide ((k : Int) < (n : Int)) = false := by simp; omega
        rw [List.take_of_length_le (show (l.take n).length ≤ k by rw [List.length_take]; omega)] at HB
        go_wp2_with (go_at_call 16; refine (put_str_full HB.out (by rw [vS_len, List.length_take]; omega) _).mono ?_; rintro e V ⟨rfl, rfl⟩)
        exact ⟨⟨k + 1, by omega, by go_num, by rw [List.take_of_length_le (show (l.take n).length ≤ k + 1 by rw [List.length_take]; omega)]; exact HB.out, HX.out⟩, by simp [intOf]; omega⟩
    · obtain rfl : k = l.length := by omega
      rw [List.take_of_length_le (show (l.take n).length ≤ l.length by rw [List.length_take]; omega)] at HB
      clear hlt hk
      go_wp2
      go_loopw [9] (fun i wr => TxRel2 lo n l w i wr) (fun i _ => ((l.length : Int) - intOf i).toNat)
      case atStart => exact ⟨0, Nat.zero_le _, rfl, HB.out, HX.out⟩
      case round =>
        clear HB HX
        obtain ⟨k, hk, rfl, hB, hx⟩ := hrel
        have HB := Lib.hid hB
        have HX := Lib.hid hx
        clear hB hx
        rw [List.length_take] at hk
        by_cases hlt : k < l.length ∧ k < n
        · have q2 : decide ((k : Int) < (l.length : Int)) = true := by simp; omega
          have q3 : decide ((k : Int) < (n : Int)) = true := by simp; omega
          have hkt : k < (l.take n).length := by rw [List.length_take]; omega
          obtain ⟨b, o, rfl, hb, hcells⟩ := hU.out.at (by omega)
          have HC := Lib.hid (hcells k hlt.1)
          clear hcells
          go_wp2_with fail
          refine (take_str_some (.string (sN l k)) (q := vS ((l.take n).drop (k + 1))) (by rw [← sN_of_take l n k hlt.2, ← vS_take _ k hkt]; exact HB.out)).mono ?_
          rintro e V ⟨rfl, hB, hF, hs⟩
          have HB2 := Lib.hid hB
          have HY := Lib.hid (hF.below HX.out hwl)
          clear hB hF hs
          have c0 := ext_cell HY.out HC.out
          go_wp2
          exact ⟨⟨k + 1, by rw [List.length_take]; omega, by go_num, HB2.out, HY.out⟩, by simp [intOf]; omega⟩
        · rw [List.drop_eq_nil_of_le (show (l.take n).length ≤ k by rw [List.length_take]; omega)] at HB
          by_cases h1 : k < l.length
          · have q2 : decide ((k : Int) < (l.length : Int)) = true := by simp; omega
            have q3 : decide ((k : Int) < (n : Int)) = false := by simp; omega
            have h2 : n ≤ k := by omega
            clear hlt hk
            go_wp2_with fail
            refine (take_str_none HB.out).mono ?_
            rintro e V ⟨rfl, rfl⟩
            go_wp2
            go_ret
            exact Ret.mk HX.out
          · have q2 : decide ((k : Int) < (l.length : Int)) = false := by simp; omega
            clear hlt hk
            go_wp2_with fail
            refine (take_str_none HB.out).mono ?_
            rintro e V ⟨rfl, rfl⟩
            go_wp2
            go_ret
            exact Ret.mk HX.out

set_option maxHeartbeats 400000 in
theorem inboxTexts_great (n a : Nat) (a0 : Option Addr) (c0 : Nat) (w : World) (h : 30 < n) :
    Calls Try.prog 5 #[.slice a0 n c0, .int .u8 (a : Int)] w (Ret (.bool true) w) := by
  have q0 : decide (30 < (n : Int)) = true := by simp; omega
  go_enter Try.func5, Try.ntmps5
  go_wp2_with (go_at_call 7; refine (awake_any _).mono ?_; rintro e w' hr'; obtain ⟨rfl, s, rfl⟩ := hr'.over; clear hr')
  go_ret
  exact Ret.mk (by repeat (first | exact ext_refl _ | apply ext_over | apply ext_alloc))

theorem inboxTexts_any (l : List ByteArray) (a : Int) (v : Value) (w : World) (ha : 0 ≤ a) (ha' : a ≤ 255) (hU : Ss w v l) : Calls Try.prog 5 #[v, .int .u8 a] w (Ret (.bool true) w) := by
  have hU' := hU
  obtain ⟨a0, c0, rfl, _⟩ := hU
  obtain ⟨a, rfl⟩ := Int.eq_ofNat_of_zero_le ha
  by_cases h : l.length ≤ 30
  · exact inboxTexts_small l a a0 c0 w (by omega) h (Lib.hid hU')
  · exact inboxTexts_great _ a a0 c0 w (by omega)

end Go.Proofs.Ytfdkihdnpjgicaa
