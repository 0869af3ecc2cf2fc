/-
  A world in which nothing old has turned, under a name that the walk sees through; what a call that only makes memory of its own comes to. No conditions.
-/
import Derived.Test.YtniejbncahmcoaaRows
import Derived.WalkKit
import Derived.WalkSpells
import Derived.WalkLawsBesides
import Derived.Deep.QuietTactic
import Derived.BigQuiet
import Derived.Lib.Hide
import Derived.Deep.RegionWith
namespace Go.Proofs.Ytniejbncahmcoaa
open Go Go.RowKit

/-! A field of a struct that is a value. -/
attribute [go_sem] Instr.field part asAgg

/-- The worlds in which nothing that 'w' holds has turned. -/
def Sub (w : World) : Type := { w' : World // Below w.heap.size w w' }
/-- One of these worlds. -/
def over (w : World) (s : Sub w) : World := s.1

theorem sub_nonempty (w : World) : Nonempty (Sub w) := ⟨⟨w, Below.refl _ _⟩⟩
attribute [instance] sub_nonempty

theorem over_below (w : World) (s : Sub w) : Below w.heap.size w (over w s) := s.2
theorem over_of {w w' : World} (h : Below w.heap.size w w') : ∃ s, w' = over w s := ⟨⟨w', h⟩, rfl⟩
/-- Two in a row are one. -/
def Sub.comp {w : World} (s : Sub w) (s' : Sub (over w s)) : Sub w := ⟨over (over w s) s', (over_below w s).trans ((over_below _ s').mono (over_below w s).size)⟩
theorem over_over (w : World) (s : Sub w) (s' : Sub (over w s)) : over (over w s) s' = over w (s.comp s') := rfl
attribute [irreducible] over
theorem over_size (w : World) (s : Sub w) : w.heap.size ≤ (over w s).heap.size := (over_below w s).size
theorem over_lt (w : World) (s : Sub w) (n : Nat) (h : n < w.heap.size) : (n < (over w s).heap.size) = True := by
  have := over_size w s
  simp; omega
theorem over_lt1 (w : World) (s : Sub w) (n : Nat) (h : n < w.heap.size) : (n < (over w s).heap.size + 1) = True := by
  have := over_size w s
  simp; omega
theorem over_cell (w : World) (s : Sub w) (b o : Nat) (h : b < w.heap.size) : (over w s).cell? ⟨b, o, none⟩ = w.cell? ⟨b, o, none⟩ := (over_below w s).cell (p := ⟨b, o, none⟩) h
theorem over_frozen (w : World) (s : Sub w) (b o : Nat) (h : b < w.heap.size) : (over w s).frozen? ⟨b, o, none⟩ = w.frozen? ⟨b, o, none⟩ := (over_below w s).frozen (p := ⟨b, o, none⟩) h

attribute [go_sem] over_over over_lt over_lt1 over_cell over_frozen

/-- What a call that only makes memory of its own comes to. -/
def Ret (v : Value) (w : World) (e : Ending) (w' : World) : Prop := e = .returned v ∧ Below w.heap.size w w'
theorem Ret.over {v : Value} {w : World} {e : Ending} {w' : World} (h : Ret v w e w') : e = .returned v ∧ ∃ s, w' = Ytniejbncahmcoaa.over w s := ⟨h.1, over_of h.2⟩
theorem Ret.mk {v : Value} {w w' : World} (h : Below w.heap.size w w') : Ret v w (.returned v) w' := ⟨rfl, h⟩

theorem Ret.int {k : IntKind} {x y : Int} {w w' : World} (e : y = x) (h : Below w.heap.size w w') : Ret (.int k x) w (.returned (.int k y)) w' := ⟨by rw [e], h⟩
theorem Ret.bool {x y : Bool} {w w' : World} (e : y = x) (h : Below w.heap.size w w') : Ret (.bool x) w (.returned (.bool y)) w' := ⟨by rw [e], h⟩

/-! 'Below w.heap.size w w'' handed on. -/
theorem ext_refl (w : World) : Below w.heap.size w w := Below.refl _ _
/-- Nothing that u holds has turned in X. -/
abbrev Ext (u X : World) : Prop := Below u.heap.size u X
/-- A cell that was there when u stood. -/
theorem ext_cell {u X : World} {b o : Nat} {v : Value} (h : Below u.heap.size u X) (hc : u.cell? ⟨b, o, none⟩ = some v) : X.cell? ⟨b, o, none⟩ = some v :=
  (h.cell (p := ⟨b, o, none⟩) (World.block_lt_of_cell? u ⟨b, o, none⟩ hc)).trans hc
theorem cell_lt {u : World} {b o : Nat} {v : Value} (hc : u.cell? ⟨b, o, none⟩ = some v) : b < u.heap.size := World.block_lt_of_cell? u ⟨b, o, none⟩ hc
theorem ext_trans {w u v : World} (h : Below w.heap.size w u) (k : Below u.heap.size u v) : Below w.heap.size w v := h.trans (k.mono h.size)
theorem ext_over {w u : World} (s : Sub u) (h : Below w.heap.size w u) : Below w.heap.size w (over u s) := ext_trans h (over_below u s)
theorem ext_alloc {w u : World} (o : Obj) (h : Below w.heap.size w u) : Below w.heap.size w (u.alloc o) := h.alloc h.size o
theorem ext_drew {w u : World} (h : Below w.heap.size w u) : Below w.heap.size w u.drew := h.drew
theorem ext_set {w u : World} {p : Addr} (x : Value) (hp : w.heap.size ≤ p.block) (h : Below w.heap.size w u) : Below w.heap.size w (u.setCell p x) := h.setCell hp x

theorem hid_yes {p : Prop} (h : p) : Hid (true = true ↔ p) := ⟨fun _ => h, fun _ => rfl⟩
theorem hid_no {p : Prop} (h : ¬ p) : Hid (false = true ↔ p) := ⟨fun e => absurd e (by decide), fun hp => absurd hp h⟩

/-- A region that draws its order, whose operations read what was there, or call what makes memory of its own: one walk, in the order of the text. -/
theorem wp_region_over {P : Program} {id : Nat} {Q : Exit → Act → World → Prop} {a : Act} {w : World} {l : List Oper} (hm : P.follows .mixedOrders = true) (hB : Region.lexB .any l.toArray = true)
    (h : wpQuiet P l.toArray (fun w' => ∃ s, w' = over w s) (fun a' => ∀ w', (∃ s, w' = over w s) → Q .normal a' w') l a) : (Code.region id l.toArray true).wp P Q a w :=
  wp_region_quiet (C := fun w' => ∃ s, w' = over w s) hm hB (over_of (Below.refl _ _).drew) (by simpa using h)

/-- The same where the world at hand is one of them already: they stay those of the first. -/
theorem wp_region_over2 {P : Program} {id : Nat} {Q : Exit → Act → World → Prop} {a : Act} {w : World} {s : Sub w} {l : List Oper} (hm : P.follows .mixedOrders = true) (hB : Region.lexB .any l.toArray = true)
    (h : wpQuiet P l.toArray (fun w' => ∃ s, w' = over w s) (fun a' => ∀ w', (∃ s, w' = over w s) → Q .normal a' w') l a) : (Code.region id l.toArray true).wp P Q a (over w s) :=
  wp_region_quiet (C := fun w' => ∃ s, w' = over w s) hm hB (over_of (over_below w s).drew) (by simpa using h)

theorem over_call {P : Program} {f : FuncId} {args : Array Value} {w : World} {s : Sub w} {v : Value} (h : Calls P f args (over w s) (Ret v (over w s))) :
    Calls P f args (over w s) fun e w'' => e = .returned v ∧ ∃ s', w'' = over w s' :=
  h.mono fun _ _ ⟨he, hb⟩ => ⟨he, over_of (ext_trans (over_below w s) hb)⟩

end Go.Proofs.Ytniejbncahmcoaa
