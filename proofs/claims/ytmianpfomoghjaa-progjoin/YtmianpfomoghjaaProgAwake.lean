/-
  What the law's awake comes to; the question whether a value is a list of words. No conditions.
-/
import Derived.Test.YtmianpfomoghjaaProgFn
namespace Go.Proofs.Ytmianpfomoghjaa
open Go Go.RowKit

set_option maxRecDepth 8000 in
set_option maxHeartbeats 1000000 in
theorem ownInt_any (x : Int) (w : World) : Calls Try.prog 58 #[.int .i64 x] w (Ret (.int .i64 x) w) := by
  have ta : ∀ v w, (Instr.typeAssert (.iface 141 v) 20 135 true).run Try.prog w = .ok (.tuple #[.pointer none, .bool false]) w := fun v w => assert_no _ v w (by decide)
  go_enter Try.func58, Try.ntmps58
  go_wp2
  go_ret
  exact Ret.mk (by repeat (first | exact ext_refl _ | apply ext_alloc))

set_option maxRecDepth 8000 in
set_option maxHeartbeats 1000000 in
theorem doneInt_any (x : Int) (w : World) : Calls Try.prog 32 #[.int .i64 x] w (Ret (.agg #[.int .i64 x, .int .i64 0, .int .i64 0, .int .u64 0, .int .u64 0, .nilFunc, .pointer none]) w) := by
  go_enter Try.func32, Try.ntmps32
  go_wp2_with (go_at_call 58; refine (ownInt_any _ _).mono ?_; rintro e w' hr'; obtain ⟨rfl, s, rfl⟩ := hr'.over; clear hr')
  have hA : (w.alloc (.cells #[.int .i64 0, .int .i64 0, .int .i64 0, .int .u64 0, .int .u64 0, .nilFunc, .pointer none] 91)).heap[w.heap.size]? = some (.cells #[.int .i64 0, .int .i64 0, .int .i64 0, .int .u64 0, .int .u64 0, .nilFunc, .pointer none] 91) := heap_alloc_new _ _
  have hB := put7_block (.int .i64 x) (.int .i64 0) (.int .i64 0) (.int .u64 0) (.int .u64 0) .nilFunc (.pointer none) (((over_below _ s).block w.heap.size (by simp)).trans hA)
  have hX := put7_ext (.int .i64 x) (.int .i64 0) (.int .i64 0) (.int .u64 0) (.int .u64 0) .nilFunc (.pointer none) (ext_over s (ext_alloc _ (ext_refl w))) (Nat.le_refl _)
  rw [put7] at hB hX
  generalize (World.setCell _ (⟨w.heap.size, 6, none⟩ : Addr) _) = Z at hB hX ⊢
  have c0 := cell_at (o := 0) hB rfl
  have c1 := cell_at (o := 1) hB rfl
  have c2 := cell_at (o := 2) hB rfl
  have c3 := cell_at (o := 3) hB rfl
  have c4 := cell_at (o := 4) hB rfl
  have c5 := cell_at (o := 5) hB rfl
  have c6 := cell_at (o := 6) hB rfl
  clear hA hB s
  exact bodyPost_ret (v := .agg #[.int .i64 x, .int .i64 0, .int .i64 0, .int .u64 0, .int .u64 0, .nilFunc, .pointer none]) (by simp [results, Try.results32, go_sem, c0, c1, c2, c3, c4, c5, c6]) rfl (Ret.mk hX)

set_option maxRecDepth 8000 in
set_option maxHeartbeats 1000000 in
theorem overInt_any (x : Int) (w : World) : Calls Try.prog 33 #[.agg #[.int .i64 x, .int .i64 0, .int .i64 0, .int .u64 0, .int .u64 0, .nilFunc, .pointer none]] w (Ret (.tuple #[.int .i64 x, .bool true]) w) := by
  have n0 : ∀ w, (binOp .neq 89 .nilFunc .nilFunc).run Try.prog w = .ok (.bool false) w := fun w => neq_nil w fnInt
  go_enter Try.func33, Try.ntmps33
  go_wp2_with (go_at_call 58; refine (ownInt_any _ _).mono ?_; rintro e w' hr'; obtain ⟨rfl, s, rfl⟩ := hr'.over; clear hr')
  exact bodyPost_ret (v := .tuple #[.int .i64 x, .bool true]) (by simp [results, Try.results33, go_sem]) rfl (Ret.mk (by repeat (first | exact ext_refl _ | apply ext_over | apply ext_alloc)))

set_option maxHeartbeats 1000000 in
theorem awake_any (w : World) : Calls Try.prog 9 #[] w (Ret (.bool true) w) := by
  go_enter Try.func9, Try.ntmps9
  go_wp2_with (first
    | (go_at_call 32; refine (doneInt_any _ _).mono ?_; rintro e w' hr'; obtain ⟨rfl, s, rfl⟩ := hr'.over; clear hr')
    | (go_at_call 33; refine (overInt_any _ _).mono ?_; rintro e w' hr'; obtain ⟨rfl, s1, rfl⟩ := hr'.over; clear hr'))
  go_ret
  exact Ret.mk (by repeat (first | exact ext_refl _ | apply ext_over | apply ext_alloc))

end Go.Proofs.Ytmianpfomoghjaa
