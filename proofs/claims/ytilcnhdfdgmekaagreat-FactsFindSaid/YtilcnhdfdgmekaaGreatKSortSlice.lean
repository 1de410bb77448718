/- sort.Slice with a less that makes memory. -/
import Derived.Test.YtilcnhdfdgmekaaGreatKShelf
import Derived.Test.YtilcnhdfdgmekaaGreatKSortPdq
import Derived.Deep.Upon
import Derived.Shelf.GgSortFunc.Tiny
import Derived.Shelf.SlSortFuncK.WholeK
namespace Go.Proofs.YtilcnhdfdgmekaaGreat.SortSlice
open Go.RowKit Base SortKit SortIns SortPdq
open Go.Sort (swp size_swp HoldsK putRowK)
variable {α : Type} [Inhabited α]

/-- what the program's tables say of a slice type t of things e, of k cells each -/
structure SlT (t e : TypeId) (enc : α → List Value) (k : Nat) : Prop where
  ex : ∃ (i ie : TypeInfo) (ke f2 : Nat) (gS : Bool), Tryz.prog.info? t = some i ∧ i.desc = .slice e ∧ Tryz.prog.packed t = false ∧ Tryz.prog.info? e = some ie ∧ (∀ w, (Extern.Rtype.kind e).run Tryz.prog w = .ok ke w) ∧ ie.size = k ∧ (∀ w, (isAgg e).run Tryz.prog w = .ok true w) ∧
    (∀ n, 2 ≤ n → Tryz.prog.funcs.findIdx? (·.name == "internal/reflectlite" ++ ".Swapper$" ++ toString (Lib.swapperK n ie ke)) = some f2) ∧
    (∀ n, n ≤ 1 → ∃ f, Tryz.prog.funcs.findIdx? (·.name == "internal/reflectlite" ++ ".Swapper$" ++ toString (Lib.swapperK n ie ke)) = some f) ∧
    (∀ args W, (callFunc f2 args).run Tryz.prog W = ((Extern.ReflectliteSwapper.swap gS args).run Tryz.prog W).andThen fun v w' => .ok (.value v) w')
  len : ∀ x, (enc x).length = k
  one : ∀ x, ∀ v ∈ enc x, v.oneCell' = true
theorem setCells_only (w : World) (b o : Nat) (vs : List Value) : Onl b w (w.setCells b o vs) := by
  induction vs generalizing o w with
  | nil => exact Onl.refl _ _
  | cons v r ih =>
    rw [World.setCells]
    exact Onl.trans (b := w.setCell ⟨b, o, none⟩ v) ⟨rfl, rfl, rfl, by simp [World.setCell], fun i _ hne => Below.heap_setCell w ⟨b, o, none⟩ v i (by rintro rfl; exact hne rfl)⟩ (ih _ _)
theorem holds_swp {enc : α → List Value} {k : Nat} (hk : ∀ x, (enc x).length = k) {w : World} {blk : Nat} {d : Array α} (h : HoldsK enc k w blk 0 d) {i j : Nat} (hi : i < d.size) (hj : j < d.size) :
    HoldsK enc k ((w.setCells blk (0 + i * k) (enc d[j]!)).setCells blk (0 + j * k) (enc d[i]!)) blk 0 (swp d i j) := by
  have e := Go.Sort.putRowK_self enc k w blk 0 d h
  have h2 := Go.Sort.putRowK_swp enc k hk w blk 0 d i j hi hj
  rw [e] at h2
  rw [h2]
  exact Go.Sort.holdsK_putRowK enc k w blk 0 d _ h (size_swp d i j)
theorem holds_same {enc : α → List Value} {k : Nat} {w w' : World} {blk : Nat} {d : Array α} (h : HoldsK enc k w blk 0 d) (hb : w'.heap[blk]? = w.heap[blk]?) : HoldsK enc k w' blk 0 d := fun j hj =>
  ⟨(World.cell?_of_block (w := w) hb).trans (h j hj).1, (World.frozen?_of_block (w := w) hb).trans (h j hj).2⟩
theorem slice_any {lt : α → α → Bool} (hO : Go.Sort.SWO lt) {t e : TypeId} {enc : α → List Value} {k : Nat} (T : SlT t e enc k) (blk c m g : Nat) (lb : Array Value) (d : Array α) (w : World) (few : d.size < 4611686018427387904) (hm : m ≤ w.heap.size) (hbm : blk < m)
    (enter : ∀ args w, (callFunc g args).run Tryz.prog w = .ok (.enter g args) w)
    (hless : ∀ dk w', w.heap.size ≤ w'.heap.size → (∀ b, b < m → b ≠ blk → w'.heap[b]? = w.heap[b]?) → HoldsK enc k w' blk 0 dk → dk.size = d.size → ∀ i j : Nat, i < d.size → j < d.size → Calls Tryz.prog g (#[.int .i64 i, .int .i64 j] ++ lb) w' fun e w2 => e = .returned (.bool (lt dk[i]! dk[j]!)) ∧ Below w'.heap.size w' w2)
    (hH : HoldsK enc k w blk 0 d) :
    Calls Tryz.prog 57 #[.iface t (.slice (some ⟨blk, 0, none⟩) d.size c), .func (.func g) #[] lb] w fun e w' => e = .returned (.tuple #[]) ∧ ∃ d', Go.Sort.PermIn 0 d.size d d' ∧ Go.Sort.SortedIn lt 0 d.size d' ∧ HoldsK enc k w' blk 0 d' ∧ Onl blk w w' := by
  obtain ⟨i, ie, ke, f2, gS, hi, hd, hpk, hie, hke, hs1, hagg, hf2, hf1, hx⟩ := T.ex
  rcases Nat.lt_or_ge d.size 2 with h2 | h2
  · obtain ⟨f, hf⟩ := hf1 d.size (by omega)
    refine (Any.sort_Slice_tiny Tryz.laysGg6 t e i ie hi hd hpk hie ke hke (some ⟨blk, 0, none⟩) d.size c (by omega) f hf (.func g) #[] lb w).mono ?_
    rintro e' w' ⟨rfl, os, rfl⟩
    have hb : ∀ q, q < w.heap.size → (Go.Sort.grow w os).heap[q]? = w.heap[q]? := fun q hq => by simp [Go.Sort.grow, hq, Array.getElem?_append_left]
    refine ⟨rfl, d, Go.Sort.permIn_refl _ _ _, fun p q _ h3 h4 => by omega, holds_same hH (hb blk (by omega)), ⟨rfl, rfl, rfl, by simp [Go.Sort.grow], fun q hq _ => hb q hq⟩⟩
  · have S : Srt Tryz.prog lt g lb f2 #[.slice (some ⟨blk, 0, none⟩) d.size c, typeHandle Tryz.prog e] d.size blk (fun dk w' => w.heap.size ≤ w'.heap.size ∧ (∀ b, b < m → b ≠ blk → w'.heap[b]? = w.heap[b]?) ∧ HoldsK enc k w' blk 0 dk) := {
      base := ⟨m, hbm, fun _ _ h => Nat.le_trans hm h.1, fun dk w1 w2 h hb => ⟨Nat.le_trans h.1 hb.size, fun b h3 h4 => (hb.block b h3).trans (h.2.1 b h3 h4), holds_same h.2.2 (hb.block blk hbm)⟩⟩
      enter := enter
      less := fun dk w1 h hsz i j hi hj => hless dk w1 h.1 h.2.1 h.2.2 hsz i j hi hj
      swap := fun dk w1 h hsz i j hi hj => by
        have hrun := swapSwapsK_of_literal gS f2 hx e ie hie enc k T.len hs1 hagg T.one blk 0 d.size c w1 dk h.2.2 hsz i j hi hj
        have ho := (setCells_only w1 blk (0 + i * k) (enc dk[j]!)).trans (setCells_only (w1.setCells blk (0 + i * k) (enc dk[j]!)) blk (0 + j * k) (enc dk[i]!))
        refine ⟨_, hrun, ⟨Nat.le_trans h.1 ho.size, fun b h3 h4 => ?_, holds_swp T.len h.2.2 (by omega) (by omega)⟩, ho⟩
        exact (ho.block b (by have := h.1; omega) (fun q => h4 (Option.some.inj q))).trans (h.2.1 b h3 h4)
      few := few }
    have hsB : sliceBound Tryz.prog e ie ke (some ⟨blk, 0, none⟩) d.size c = #[.slice (some ⟨blk, 0, none⟩) d.size c, typeHandle Tryz.prog e] := by
      unfold sliceBound
      rw [if_neg (swapperK_gt _ _ _ h2)]
    have hW : ∃ W, sliceWorld Tryz.prog Tryz.laysGg6_ren t (some ⟨blk, 0, none⟩) d.size c w = W ∧ Below w.heap.size w W := by
      refine ⟨_, rfl, ?_⟩
      unfold sliceWorld
      exact ((Below.refl _ _).alloc (Nat.le_refl _) _).alloc (by simp) _
    obtain ⟨W, hWe, hbW⟩ := hW
    have hG : w.heap.size ≤ W.heap.size ∧ (∀ b, b < m → b ≠ blk → W.heap[b]? = w.heap[b]?) ∧ HoldsK enc k W blk 0 d := ⟨hbW.size, fun b h3 _ => hbW.block b (by omega), holds_same hH (hbW.block blk (by omega))⟩
    have hp := pdq_any S hO (d.size + 1) 0 d.size (Lib.bitLen d.size) d W (by omega) hG rfl (Nat.zero_le _) (Nat.le_refl _) (Nat.lt_of_le_of_lt (Lib.bitLen_le d.size 62 (by omega) (by omega)) (by omega)) (Or.inl rfl)
    have hs := Any.sort_Slice_of_pdq Tryz.laysGg6 t e i ie hi hd hpk hie ke hke (some ⟨blk, 0, none⟩) d.size c few f2 (hf2 _ h2) (.func g) #[] lb w (fun w' => ∃ d', Go.Sort.PermIn 0 d.size d d' ∧ Go.Sort.SortedIn lt 0 d.size d' ∧ HoldsK enc k w' blk 0 d' ∧ Onl blk w w') (by
      rw [hsB, hWe]
      refine hp.mono ?_
      rintro e' w' ⟨rfl, hG', hO'⟩
      have hq := Go.Sort.pdq_sorts lt hO d 0 d.size (Lib.bitLen d.size) true true (Nat.zero_le _) (Nat.le_refl _) (Or.inl rfl)
      exact ⟨rfl, _, hq.1, hq.2, hG'.2.2, (Onl.ofBelow hbW).trans hO'⟩)
    exact hs
end Go.Proofs.YtilcnhdfdgmekaaGreat.SortSlice
