/- Expressions, rules, kinds in memory: what lies there is read, never written. -/
import Derived.Test.YtkmnbdomikpakaaDoorKRuleCan
import Derived.Test.YtkmnbdomikpakaaDoorKTupleRefN
namespace Go.Proofs.YtkmnbdomikpakaaDoor.RuleMem
open Go.RowKit Base KeyPlain TuplePlain TupleRef RulePlain

/-- the cells from a on are these; in blocks below B -/
def Sees (w : World) (B : Nat) (a : Addr) (vs : List Value) : Prop := a.block < B ∧ ∀ j v, vs[j]? = some v → w.cell? (a.add j) = some v
theorem Sees.below {w w' : World} {B : Nat} {a : Addr} {vs : List Value} (h : Sees w B a vs) (hb : Below B w w') : Sees w' B a vs :=
  ⟨h.1, fun j v hv => (hb.cell (p := a.add j) (by rw [blk_add]; exact h.1)).trans (h.2 j v hv)⟩
theorem Sees.more {w : World} {B B' : Nat} {a : Addr} {vs : List Value} (h : Sees w B a vs) (hB : B ≤ B') : Sees w B' a vs := ⟨Nat.lt_of_lt_of_le h.1 hB, h.2⟩
theorem Sees.at0 {w : World} {B : Nat} {a : Addr} {v : Value} {vs : List Value} (h : Sees w B a (v :: vs)) : w.cell? a = some v := by
  have := h.2 0 v rfl
  rwa [show a.add 0 = a from by simp [Addr.add]] at this
theorem Sees.at_ {w : World} {B : Nat} {a : Addr} {v : Value} {vs : List Value} (h : Sees w B a vs) (j : Nat) (hv : vs[j + 1]? = some v) : w.cell? ⟨a.block, a.off + (j + 1), none⟩ = some v := by
  have := h.2 (j + 1) v hv
  rwa [show a.add (j + 1) = ⟨a.block, a.off + (j + 1), none⟩ from by simp [Addr.add]] at this
/-- a slice of things of so many cells each -/
def SlOf {α : Type} (w : World) (B stride : Nat) (P : α → List Value → Prop) (A : Option Addr) (xs : List α) : Prop :=
  ∃ q : Nat → List Value, ∀ i (hi : i < xs.length), (∃ ad, A = some ad ∧ Sees w B (ad.add (i * stride)) (q i)) ∧ P xs[i] (q i)
theorem SlOf.imp {α : Type} {w w' : World} {B B' stride : Nat} {P P' : α → List Value → Prop} {A : Option Addr} {xs : List α} (h : SlOf w B stride P A xs) (hs : ∀ a vs, Sees w B a vs → Sees w' B' a vs) (hp : ∀ x q, x ∈ xs → P x q → P' x q) : SlOf w' B' stride P' A xs := by
  obtain ⟨q, hq⟩ := h
  refine ⟨q, fun i hi => ?_⟩
  obtain ⟨⟨ad, hA, h1⟩, h2⟩ := hq i hi
  exact ⟨⟨ad, hA, hs _ _ h1⟩, hp _ _ (List.getElem_mem hi) h2⟩
/-- an expression's cells -/
inductive Lay (w : World) (B : Nat) : Ex → List Value → Prop
  | mk (op nm fo : ByteArray) (ps : List Ex) (A : Option Addr) (c : Nat) (q : Nat → List Value) (hl : ps.length ≤ maxLen)
      (h1 : ∀ i, i < ps.length → ∃ ad, A = some ad ∧ Sees w B (ad.add (i * 4)) (q i)) (h2 : ∀ i (hi : i < ps.length), Lay w B (ps[i]) (q i)) :
      Lay w B (.mk op nm fo ps) [.string op, .string nm, .string fo, .slice A ps.length c]
theorem Lay.imp {w w' : World} {B B' : Nat} {e : Ex} {q : List Value} (h : Lay w B e q) (hs : ∀ a vs, Sees w B a vs → Sees w' B' a vs) : Lay w' B' e q := by
  induction h with
  | mk op nm fo ps A c q hl h1 h2 ih => exact .mk op nm fo ps A c q hl (fun i hi => by obtain ⟨ad, hA, h⟩ := h1 i hi; exact ⟨ad, hA, hs _ _ h⟩) ih
/-- what an expression's cells are -/
theorem Lay.open {w : World} {B : Nat} {e : Ex} {q : List Value} (h : Lay w B e q) : ∃ A c, q = [.string e.op, .string e.nm, .string e.fo, .slice A e.ps.length c] ∧ SlOf w B 4 (Lay w B) A e.ps ∧ e.ps.length ≤ maxLen := by
  cases h with
  | mk op nm fo ps A c q hl h1 h2 => exact ⟨A, c, rfl, ⟨q, fun i hi => ⟨h1 i hi, h2 i hi⟩⟩, hl⟩
theorem Lay.of {w : World} {B : Nat} {op nm fo : ByteArray} {ps : List Ex} {A : Option Addr} {c : Nat} (h : SlOf w B 4 (Lay w B) A ps) (hl : ps.length ≤ maxLen) : Lay w B (.mk op nm fo ps) [.string op, .string nm, .string fo, .slice A ps.length c] := by
  obtain ⟨q, hq⟩ := h
  exact .mk op nm fo ps A c q hl (fun i hi => (hq i hi).1) (fun i hi => (hq i hi).2)
def LayR (w : World) (B : Nat) (r : Rl) (q : List Value) : Prop := ∃ qe, Lay w B r.e qe ∧ q = .string r.rel :: qe
def LayK (w : World) (B : Nat) (k : Kd) (q : List Value) : Prop := ∃ A c, q = [.string k.name, .slice A k.rules.length c] ∧ SlOf w B 5 (LayR w B) A k.rules ∧ k.rules.length ≤ maxLen
def LayL (w : World) (B : Nat) (A : Option Addr) (l : List Kd) : Prop := SlOf w B 2 (LayK w B) A l
theorem LayR.imp {w w' : World} {B B' : Nat} {r : Rl} {q : List Value} (h : LayR w B r q) (hs : ∀ a vs, Sees w B a vs → Sees w' B' a vs) : LayR w' B' r q := by
  obtain ⟨qe, h1, h2⟩ := h
  exact ⟨qe, h1.imp hs, h2⟩
theorem LayK.imp {w w' : World} {B B' : Nat} {k : Kd} {q : List Value} (h : LayK w B k q) (hs : ∀ a vs, Sees w B a vs → Sees w' B' a vs) : LayK w' B' k q := by
  obtain ⟨A, c, h1, h2, h3⟩ := h
  exact ⟨A, c, h1, h2.imp hs fun _ _ _ h => h.imp hs, h3⟩
theorem LayL.imp {w w' : World} {B B' : Nat} {A : Option Addr} {l : List Kd} (h : LayL w B A l) (hs : ∀ a vs, Sees w B a vs → Sees w' B' a vs) : LayL w' B' A l := SlOf.imp h hs fun _ _ _ h => h.imp hs
section
variable {w w' : World}
theorem see_later (hb : Below w.heap.size w w') : ∀ a vs, Sees w w.heap.size a vs → Sees w' w'.heap.size a vs := fun _ _ h => (h.below hb).more hb.size
theorem Lay.later {e : Ex} {q : List Value} (h : Lay w w.heap.size e q) (hb : Below w.heap.size w w') : Lay w' w'.heap.size e q := h.imp (see_later hb)
theorem LayK.later {k : Kd} {q : List Value} (h : LayK w w.heap.size k q) (hb : Below w.heap.size w w') : LayK w' w'.heap.size k q := h.imp (see_later hb)
theorem LayL.later {A : Option Addr} {l : List Kd} (h : LayL w w.heap.size A l) (hb : Below w.heap.size w w') : LayL w' w'.heap.size A l := h.imp (see_later hb)
end
/-- the parts of an expression, one by one: what an index reads -/
theorem SlOf.part {w : World} {B : Nat} {A : Option Addr} {ps : List Ex} (h : SlOf w B 4 (Lay w B) A ps) (i : Nat) (hi : i < ps.length) :
    ∃ ad x0 x1 x2 x3, A = some ad ∧ ad.block < B ∧ w.cell? (ad.add (i * 4)) = some x0 ∧ w.cell? ⟨(ad.add (i * 4)).block, (ad.add (i * 4)).off + 1, none⟩ = some x1 ∧ w.cell? ⟨(ad.add (i * 4)).block, (ad.add (i * 4)).off + 2, none⟩ = some x2 ∧ w.cell? ⟨(ad.add (i * 4)).block, (ad.add (i * 4)).off + 3, none⟩ = some x3 ∧ Lay w B ps[i] [x0, x1, x2, x3] := by
  obtain ⟨q, hq⟩ := h
  obtain ⟨⟨ad, hA, hs⟩, hl⟩ := hq i hi
  obtain ⟨A', c', he, _⟩ := hl.open
  rw [he] at hs hl
  exact ⟨ad, _, _, _, _, hA, by have := hs.1; rwa [blk_add] at this, hs.at0, hs.at_ 0 rfl, hs.at_ 1 rfl, hs.at_ 2 rfl, hl⟩
theorem four_at {w : World} {g : Nat} {t : TypeId} {a b c d : Value} (q : w.heap[g]? = some (.cells #[a, b, c, d] t (0, 0))) : w.cell? ⟨g, 0, none⟩ = some a ∧ w.cell? ⟨g, 1, none⟩ = some b ∧ w.cell? ⟨g, 2, none⟩ = some c ∧ w.cell? ⟨g, 3, none⟩ = some d := by
  refine ⟨?_, ?_, ?_, ?_⟩ <;> (simp only [World.cell?, q]; rfl)
end Go.Proofs.YtkmnbdomikpakaaDoor.RuleMem
