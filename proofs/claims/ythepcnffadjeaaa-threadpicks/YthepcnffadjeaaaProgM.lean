/-
  What a program is, as a value in memory: the accesses that are left, and the words that were told. Conditions: those of each theorem.
-/
import Derived.Test.YthepcnffadjeaaaProgFn
namespace Go.Proofs.Ythepcnffadjeaaa
open Go Go.RowKit

/-- All but the blocks of D are as before. -/
structure FD (D : Nat → Prop) (w w' : World) : Prop where
  os : w'.os = w.os
  tape : w'.tape = w.tape
  output : w'.output = w.output
  size : w.heap.size ≤ w'.heap.size
  block : ∀ k, k < w.heap.size → ¬ D k → w'.heap[k]? = w.heap[k]?
theorem FD.cell {D : Nat → Prop} {w w' : World} (h : FD D w w') {b o : Nat} (hb : b < w.heap.size) (hn : ¬ D b) : w'.cell? ⟨b, o, none⟩ = w.cell? ⟨b, o, none⟩ := by
  simp [World.cell?, h.block b hb hn]
theorem FD.trans {D : Nat → Prop} {a b c : World} (h : FD D a b) (k : FD D b c) : FD D a c :=
  ⟨k.os.trans h.os, k.tape.trans h.tape, k.output.trans h.output, Nat.le_trans h.size k.size, fun i hi hn => (k.block i (Nat.lt_of_lt_of_le hi h.size) hn).trans (h.block i hi hn)⟩
theorem FD.of_ext {D : Nat → Prop} {w w' : World} (h : Ext w w') : FD D w w' := ⟨h.os, h.tape, h.output, h.size, fun k hk _ => h.block k hk⟩
theorem FD.of_fr {D : Nat → Prop} {lo hi : Nat} {w w' : World} (h : Fr lo hi w w') (hd : ∀ k, lo ≤ k → k < hi → D k) : FD D w w' :=
  ⟨h.os, h.tape, h.output, h.size, fun k hk hn => h.block k hk (by
    by_cases h1 : lo ≤ k
    · by_cases h2 : k < hi
      · exact absurd (hd k h1 h2) hn
      · exact .inr (Nat.le_of_not_lt h2)
    · exact .inl (Nat.lt_of_not_le h1))⟩
theorem FD.wide {D E : Nat → Prop} {w w' : World} (h : FD D w w') (hd : ∀ k, D k → E k) : FD E w w' := ⟨h.os, h.tape, h.output, h.size, fun k hk hn => h.block k hk fun x => hn (hd k x)⟩

/-- A slice of words whose block is none of D. -/
def UsB (D : Nat → Prop) (w : World) (v : Value) (l : List (BitVec 64)) : Prop :=
  ∃ a0 cap, v = .slice a0 l.length cap ∧ l.length ≤ cap ∧ (0 < l.length → ∃ b off, a0 = some ⟨b, off, none⟩ ∧ ¬ D b ∧ b < w.heap.size ∧
    ∀ i, i < l.length → w.cell? ⟨b, off + i, none⟩ = some (.int .u64 (U (uN l i))))
theorem UsB.us {D : Nat → Prop} {w : World} {v : Value} {l : List (BitVec 64)} (h : UsB D w v l) : Us w v l := by
  obtain ⟨a0, cap, e, hc, hr⟩ := h
  refine ⟨a0, cap, e, hc, fun hl => ?_⟩
  obtain ⟨b, off, ea, _, hlt, hcell⟩ := hr hl
  exact ⟨b, off, ea, hlt, hcell⟩
theorem UsB.fr {D : Nat → Prop} {w w' : World} {v : Value} {l : List (BitVec 64)} (h : UsB D w v l) (hf : FD D w w') : UsB D w' v l := by
  obtain ⟨a0, cap, e, hc, hr⟩ := h
  refine ⟨a0, cap, e, hc, fun hl => ?_⟩
  obtain ⟨b, off, ea, h0, hlt, hcell⟩ := hr hl
  refine ⟨b, off, ea, h0, Nat.lt_of_lt_of_le hlt hf.size, fun i hi => ?_⟩
  rw [hf.cell hlt h0]
  exact hcell i hi
theorem UsB.nil (D : Nat → Prop) (w : World) : UsB D w (.slice none 0 0) [] := ⟨none, 0, rfl, Nat.le_refl _, fun h => absurd h (Nat.not_lt_zero _)⟩

/-- A slice of accesses whose block is none of D. -/
def aN (l : List Acc) (i : Nat) : Acc := l.getD i ⟨0, 0, 0#64, 0#64⟩
def AsB (D : Nat → Prop) (w : World) (v : Value) (l : List Acc) : Prop :=
  ∃ a0 cap, v = .slice a0 l.length cap ∧ l.length ≤ cap ∧ (0 < l.length → ∃ b o, a0 = some ⟨b, o, none⟩ ∧ ¬ D b ∧ b < w.heap.size ∧ ∀ i, i < l.length →
    w.cell? ⟨b, o + i * 4, none⟩ = some (.int .i64 (aN l i).op) ∧ w.cell? ⟨b, o + i * 4 + 1, none⟩ = some (.int .i64 (aN l i).at_) ∧
    w.cell? ⟨b, o + i * 4 + 2, none⟩ = some (.int .u64 (U (aN l i).a)) ∧ w.cell? ⟨b, o + i * 4 + 3, none⟩ = some (.int .u64 (U (aN l i).b)))
theorem AsB.fr {D : Nat → Prop} {w w' : World} {v : Value} {l : List Acc} (h : AsB D w v l) (hf : FD D w w') : AsB D w' v l := by
  obtain ⟨a0, cap, e, hc, hr⟩ := h
  refine ⟨a0, cap, e, hc, fun hl => ?_⟩
  obtain ⟨b, o, ea, h0, hlt, hcell⟩ := hr hl
  refine ⟨b, o, ea, h0, Nat.lt_of_lt_of_le hlt hf.size, fun i hi => ?_⟩
  rw [hf.cell hlt h0, hf.cell hlt h0, hf.cell hlt h0, hf.cell hlt h0]
  exact hcell i hi
theorem AsB.ext {D : Nat → Prop} {w w' : World} {v : Value} {l : List Acc} (h : AsB D w v l) (hf : Ext w w') : AsB D w' v l := h.fr (.of_ext hf)
theorem asB_of {w : World} {v : Value} {n : Nat} {f : Nat → Acc} (h : As w v n f) : AsB (fun _ => False) w v ((List.range n).map f) := by
  obtain ⟨a0, cap, e, hc, hr⟩ := h
  refine ⟨a0, cap, by simpa using e, by simpa using hc, fun hl => ?_⟩
  obtain ⟨b, o, ea, hlt, hcell⟩ := hr (by simpa using hl)
  refine ⟨b, o, ea, fun h => h, hlt, fun i hi => ?_⟩
  have hi' : i < n := by simpa using hi
  have e1 : aN ((List.range n).map f) i = f i := by unfold aN; exact getD_range f n i _ hi'
  rw [e1]
  exact hcell i hi'
theorem AsB.at {D : Nat → Prop} {w : World} {a0 : Option Addr} {m cap : Nat} {l : List Acc} (h : AsB D w (.slice a0 m cap) l) (hl : 0 < l.length) : ∃ b o, a0 = some ⟨b, o, none⟩ ∧ ¬ D b ∧ b < w.heap.size ∧ ∀ i, i < l.length →
    w.cell? ⟨b, o + i * 4, none⟩ = some (.int .i64 (aN l i).op) ∧ w.cell? ⟨b, o + i * 4 + 1, none⟩ = some (.int .i64 (aN l i).at_) ∧
    w.cell? ⟨b, o + i * 4 + 2, none⟩ = some (.int .u64 (U (aN l i).a)) ∧ w.cell? ⟨b, o + i * 4 + 3, none⟩ = some (.int .u64 (U (aN l i).b)) := by
  obtain ⟨a, c', e, _, hr⟩ := h
  simp at e
  obtain ⟨rfl, rfl, rfl⟩ := e
  exact hr hl

/-- The words that were told, the last one first. -/
def Told (D : Nat → Prop) (w : World) : List (BitVec 64) → Value → Prop
  | [], v => v = .pointer none
  | x :: r, v => ∃ g p, v = .pointer (some ⟨g, 0, none⟩) ∧ ¬ D g ∧ g < w.heap.size ∧ w.cell? ⟨g, 0, none⟩ = some (.int .u64 (U x)) ∧ w.cell? ⟨g, 1, none⟩ = some p ∧ Told D w r p
theorem Told.fr {D : Nat → Prop} {w w' : World} (hf : FD D w w') : ∀ {r : List (BitVec 64)} {v : Value}, Told D w r v → Told D w' r v
  | [], _, h => h
  | _ :: _, _, ⟨g, p, e, h0, hlt, c0, c1, h⟩ => ⟨g, p, e, h0, Nat.lt_of_lt_of_le hlt hf.size, by rw [hf.cell hlt h0]; exact c0, by rw [hf.cell hlt h0]; exact c1, Told.fr hf h⟩
theorem Told.ext {D : Nat → Prop} {w w' : World} {r : List (BitVec 64)} {v : Value} (h : Told D w r v) (hb : Ext w w') : Told D w' r v := h.fr (.of_ext hb)

/-- A program's value. -/
def pV (r : Value) (a : Acc) (fn parts : Value) : Value := .agg #[r, .int .i64 a.op, .int .i64 a.at_, .int .u64 (U a.a), .int .u64 (U a.b), fn, parts]
def accZ : Acc := ⟨0, 0, 0#64, 0#64⟩
/-- A list's program: the accesses l are left, the words t were told. -/
def PL : (D : Nat → Prop) → List Acc → List (BitVec 64) → Value → World → Prop
  | D, [], t, v, w => ∃ rv, v = pV rv accZ .nilFunc (.pointer none) ∧ UsB D w rv t
  | D, a :: l, t, v, w => ∃ g caps, v = pV (.slice none 0 0) a (.func (.func g) #[] caps) (.pointer none) ∧ (∀ args w, (callFunc g args).run Try.prog w = .ok (.enter g args) w) ∧
      ∀ (E : Nat → Prop), (∀ k, k < w.heap.size → (E k ↔ D k)) → ∀ (x : BitVec 64) (w' : World), FD E w w' → (∀ k, E k → k < w'.heap.size) → Calls Try.prog g (#[.int .u64 (U x)] ++ caps) w' fun e w'' => ∃ v', e = .returned v' ∧ Ext w' w'' ∧ PL E l (t ++ [x]) v' w''
theorem PL.fr {D : Nat → Prop} {l : List Acc} {t : List (BitVec 64)} {v : Value} {w w' : World} (h : PL D l t v w) (hf : FD D w w') : PL D l t v w' := by
  cases l with
  | nil => obtain ⟨rv, e, hu⟩ := h; exact ⟨rv, e, hu.fr hf⟩
  | cons a l => obtain ⟨g, caps, e, he, hc⟩ := h; exact ⟨g, caps, e, he, fun E hE x u hu => hc E (fun k hk => hE k (Nat.lt_of_lt_of_le hk hf.size)) x u (FD.trans ⟨hf.os, hf.tape, hf.output, hf.size, fun k hk hn => hf.block k hk fun hd => hn ((hE k (Nat.lt_of_lt_of_le hk hf.size)).2 hd)⟩ hu)⟩
/-- Any program: as that, but whatever its parts. -/
def PH (D : Nat → Prop) : List Acc → List (BitVec 64) → Value → World → Prop
  | [], t, v, w => ∃ rv parts, v = pV rv accZ .nilFunc (.pointer parts) ∧ UsB D w rv t
  | a :: l, t, v, w => ∃ g caps parts, v = pV (.slice none 0 0) a (.func (.func g) #[] caps) (.pointer parts) ∧ (∀ args w, (callFunc g args).run Try.prog w = .ok (.enter g args) w) ∧
      ∀ (E : Nat → Prop), (∀ k, k < w.heap.size → (E k ↔ D k)) → ∀ (x : BitVec 64) (w' : World), FD E w w' → (∀ k, E k → k < w'.heap.size) → Calls Try.prog g (#[.int .u64 (U x)] ++ caps) w' fun e w'' => ∃ v', e = .returned v' ∧ Ext w' w'' ∧ PL E l (t ++ [x]) v' w''
theorem PH.fr {D : Nat → Prop} {l : List Acc} {t : List (BitVec 64)} {v : Value} {w w' : World} (h : PH D l t v w) (hf : FD D w w') : PH D l t v w' := by
  cases l with
  | nil => obtain ⟨rv, p, e, hu⟩ := h; exact ⟨rv, p, e, hu.fr hf⟩
  | cons a l => obtain ⟨g, caps, p, e, he, hc⟩ := h; exact ⟨g, caps, p, e, he, fun E hE x u hu => hc E (fun k hk => hE k (Nat.lt_of_lt_of_le hk hf.size)) x u (FD.trans ⟨hf.os, hf.tape, hf.output, hf.size, fun k hk hn => hf.block k hk fun hd => hn ((hE k (Nat.lt_of_lt_of_le hk hf.size)).2 hd)⟩ hu)⟩
theorem PL.h {D : Nat → Prop} {l : List Acc} {t : List (BitVec 64)} {v : Value} {w : World} (h : PL D l t v w) : PH D l t v w := by
  cases l with
  | nil => obtain ⟨rv, e, hu⟩ := h; exact ⟨rv, _, e, hu⟩
  | cons a l => obtain ⟨g, caps, e, he, hc⟩ := h; exact ⟨g, caps, _, e, he, hc⟩
theorem PH.ext {D : Nat → Prop} {l : List Acc} {t : List (BitVec 64)} {v : Value} {w w' : World} (h : PH D l t v w) (hf : Ext w w') : PH D l t v w' := h.fr (.of_ext hf)
theorem PL.ext {D : Nat → Prop} {l : List Acc} {t : List (BitVec 64)} {v : Value} {w w' : World} (h : PL D l t v w) (hf : Ext w w') : PL D l t v w' := h.fr (.of_ext hf)

theorem UsB.mono {D E : Nat → Prop} {w : World} {v : Value} {l : List (BitVec 64)} (h : UsB E w v l) (hd : ∀ k, D k → E k) : UsB D w v l := by
  obtain ⟨a0, cap, e, hc, hr⟩ := h
  refine ⟨a0, cap, e, hc, fun hl => ?_⟩
  obtain ⟨b, off, ea, h0, hlt, hcell⟩ := hr hl
  exact ⟨b, off, ea, fun x => h0 (hd b x), hlt, hcell⟩
theorem PL.mono : ∀ {l : List Acc} {D E : Nat → Prop} {t : List (BitVec 64)} {v : Value} {w : World}, (∀ k, D k → E k) → PL E l t v w → PL D l t v w
  | [], _, _, _, _, _, hd, ⟨rv, e, hu⟩ => ⟨rv, e, hu.mono hd⟩
  | _ :: _, D, E, _, _, w, hd, ⟨g, caps, e, he, hc⟩ => ⟨g, caps, e, he, fun F hF x u hu hs => by
      refine (hc (fun k => (k < w.heap.size ∧ E k) ∨ (¬ k < w.heap.size ∧ F k)) (fun k hk => ?_) x u ?_ ?_).mono fun _ _ ⟨v', e', hx, hp⟩ => ⟨v', e', hx, PL.mono (fun k hk => ?_) hp⟩
      · exact ⟨fun h => h.elim (·.2) (fun h => absurd hk h.1), fun h => .inl ⟨hk, h⟩⟩
      · exact ⟨hu.os, hu.tape, hu.output, hu.size, fun k hk hn => hu.block k hk fun hf => hn (.inl ⟨hk, hd k ((hF k hk).1 hf)⟩)⟩
      · exact fun k hk => hk.elim (fun h => Nat.lt_of_lt_of_le h.1 hu.size) (fun h => hs k h.2)
      · by_cases h : k < w.heap.size
        · exact .inl ⟨h, hd k ((hF k h).1 hk)⟩
        · exact .inr ⟨h, hk⟩⟩
theorem UsB.more {D E : Nat → Prop} {w : World} {v : Value} {l : List (BitVec 64)} (h : UsB D w v l) (he : ∀ k, k < w.heap.size → (E k ↔ D k)) : UsB E w v l := by
  obtain ⟨a0, cap, e, hc, hr⟩ := h
  refine ⟨a0, cap, e, hc, fun hl => ?_⟩
  obtain ⟨b, o, ea, h0, hlt, hcell⟩ := hr hl
  exact ⟨b, o, ea, fun x => h0 ((he b hlt).1 x), hlt, hcell⟩
theorem PL.more {D E : Nat → Prop} {l : List Acc} {t : List (BitVec 64)} {v : Value} {w : World} (h : PL D l t v w) (he : ∀ k, k < w.heap.size → (E k ↔ D k)) : PL E l t v w := by
  cases l with
  | nil => obtain ⟨rv, e, hu⟩ := h; exact ⟨rv, e, hu.more he⟩
  | cons a l => obtain ⟨g, caps, e, hn, hc⟩ := h; exact ⟨g, caps, e, hn, fun F hF => hc F fun k hk => (hF k hk).trans (he k hk)⟩
theorem PH.more {D E : Nat → Prop} {l : List Acc} {t : List (BitVec 64)} {v : Value} {w : World} (h : PH D l t v w) (he : ∀ k, k < w.heap.size → (E k ↔ D k)) : PH E l t v w := by
  cases l with
  | nil => obtain ⟨rv, p, e, hu⟩ := h; exact ⟨rv, p, e, hu.more he⟩
  | cons a l => obtain ⟨g, caps, p, e, hn, hc⟩ := h; exact ⟨g, caps, p, e, hn, fun F hF => hc F fun k hk => (hF k hk).trans (he k hk)⟩
/-- With blocks more that may turn, none of them old. -/
theorem Told.more {D E : Nat → Prop} {w : World} (he : ∀ k, k < w.heap.size → E k → D k) : ∀ {r : List (BitVec 64)} {v : Value}, Told D w r v → Told E w r v
  | [], _, h => h
  | _ :: _, _, ⟨g, p, e, h0, hlt, c0, c1, h⟩ => ⟨g, p, e, fun x => h0 (he g hlt x), hlt, c0, c1, Told.more he h⟩
theorem AsB.more {D E : Nat → Prop} {w : World} {v : Value} {l : List Acc} (h : AsB D w v l) (he : ∀ k, k < w.heap.size → E k → D k) : AsB E w v l := by
  obtain ⟨a0, cap, e, hc, hr⟩ := h
  refine ⟨a0, cap, e, hc, fun hl => ?_⟩
  obtain ⟨b, o, ea, h0, hlt, hcell⟩ := hr hl
  exact ⟨b, o, ea, fun x => h0 (he b hlt x), hlt, hcell⟩

end Go.Proofs.Ythepcnffadjeaaa
