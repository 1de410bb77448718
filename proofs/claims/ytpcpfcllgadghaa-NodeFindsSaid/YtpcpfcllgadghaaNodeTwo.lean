/- Two lists of texts of a call's own, in rows apart: one item more to either. -/
import Derived.Test.YtpcpfcllgadghaaNodeEnt
namespace Go.Proofs.Ytpcpfcllgadghaa.NodeTwo
open Go.RowKit Base NodePlain NodeRead NodeSlice NodeCheck NodeBox NodeEnt

def Apart (A B : Option Addr) : Prop := ∀ a b, A = some a → B = some b → a.block ≠ b.block
structure Two (w : World) (base : Nat) (A : Option Addr) (c : Nat) (xs : List Value) (B : Option Addr) (d : Nat) (ys : List Value) : Prop where
  a : Own w base 9 A c xs
  b : Own w base 9 B d ys
  ap : Apart A B
section
variable {w w' : World} {base : Nat} {A B : Option Addr} {c d : Nat} {xs ys : List Value}
theorem Two.symm (h : Two w base A c xs B d ys) : Two w base B d ys A c xs := ⟨h.b, h.a, fun a b e f q => h.ap b a f e q.symm⟩
theorem Two.below (h : Two w base A c xs B d ys) (hb : Below w.heap.size w w') : Two w' base A c xs B d ys := ⟨h.a.later hb, h.b.later hb, h.ap⟩
theorem Two.nil (w : World) (base : Nat) : Two w base none 0 [] none 0 [] := ⟨Own.nil _ _ _, Own.nil _ _ _, fun _ _ e => by cases e⟩
theorem own_lt (h : Own w base 9 A c xs) {a : Addr} (e : A = some a) : a.block < w.heap.size := (h.block a.block (by rw [e]; rfl)).2
theorem own_ge (h : Own w base 9 A c xs) {a : Addr} (e : A = some a) : base ≤ a.block := (h.block a.block (by rw [e]; rfl)).1
/-- one item more to the first -/
theorem Two.app {W : World} {B0 : Nat} (h : Two w base A c xs B d ys) (g : Nat) (v : Value) (t : TypeId) (hv : At w g t #[v]) (h1 : v.oneCell' = true) (n : Nat) (hn : n = xs.length) (hl : n ≤ 100000) (hbase : base ≤ w.heap.size) (hB0 : B0 ≤ base) (hb : Below B0 W w) :
    ∃ A' c' w', (Builtin.append_ #[22, 22] 22 #[.slice A n c, .slice (some ⟨g, 0, none⟩) 1 1]).run Try.prog w = .ok (.slice A' (n + 1) c') w' ∧ Two w' base A' c' (xs ++ [v]) B d ys ∧ Below B0 W w' ∧ (∀ g2 t2 cs2, At w g2 t2 cs2 → (∀ a, A = some a → a.block ≠ g2) → At w' g2 t2 cs2) ∧ (∀ a, A' = some a → A = none ∨ (∃ a', A = some a' ∧ a.block = a'.block) ∨ w.heap.size ≤ a.block) ∧ w.heap.size ≤ w'.heap.size := by
  subst hn
  obtain ⟨ht, i, z, hi, hz, hs, hby, hzs⟩ := el_s
  obtain ⟨v', w', hrun, h2, h3, _, h5⟩ := run_append_own_at (P := Try.prog) w base 22 22 9 i z 1 16 ht hi hz hs hby hzs (by omega) _ _ xs h.a ⟨g, 0, none⟩ 1 1 [v] rfl (fun j u hu => by
    rw [add_zero_block, hv.cell]
    rw [← hu]
    simp) (by intro u hu; rw [List.mem_singleton.1 hu]; exact h1) (by simp [maxLen]; omega) (by omega) hbase
  have hform : ∃ A' c', v' = .slice A' (xs.length + 1) c' := by
    rcases h2.2 with ⟨h4, h5⟩ | ⟨g, cap, cur, h4, _⟩
    · exact ⟨none, 0, by rw [h4, h5]⟩
    · exact ⟨_, _, h4⟩
  obtain ⟨A', c', rfl⟩ := hform
  have ho : Own w' base 9 A' c' (xs ++ [v]) := by unfold Own; rw [List.length_append]; exact h2
  have hplace : ∀ a, A' = some a → (∃ a', A = some a' ∧ a.block = a'.block) ∨ w.heap.size ≤ a.block := by
    rintro a rfl
    rcases h5 with h5 | h5
    · cases hA : A with
      | none => rw [hA] at h5; cases h5
      | some a' => rw [hA] at h5; left; refine ⟨a', rfl, ?_⟩; simpa [Value.ownBlock] using h5
    · right
      have : a.block = w.heap.size := by simpa [Value.ownBlock] using h5
      omega
  refine ⟨A', c', w', hrun, ⟨ho, ?_, ?_⟩, h.a.below hb h3 hB0 hbase, ?_, fun a e => .inr (hplace a e), h3.size⟩
  · refine World.ownsRow.kept h.b h3 ?_
    cases hB : B with
    | none => exact .inl rfl
    | some b =>
      right
      cases hA : A with
      | none => simp [Value.ownBlock]
      | some a => simp only [Value.ownBlock, ne_eq, Option.some.injEq]; exact fun q => h.ap a b hA hB q.symm
  · intro a b e f q
    rcases hplace a e with ⟨a', ha, hq⟩ | hq
    · exact h.ap a' b ha f (by rw [← hq, q])
    · have := own_lt h.b f; omega
  · intro g2 t2 cs2 hat hne
    refine (h3.block g2 (heap_lt hat) ?_).trans hat
    cases hA : A with
    | none => simp [Value.ownBlock]
    | some a => simp only [Value.ownBlock, ne_eq, Option.some.injEq]; exact fun q => hne a hA q.symm
end
end Go.Proofs.Ytpcpfcllgadghaa.NodeTwo
