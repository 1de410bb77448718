/- One page in a box of its own, and a summer behind it. -/
import Derived.Test.YtlcnnebnocjelaaPageSameL
namespace Go.Proofs.Ytlcnnebnocjelaa.PageOne
open Go.RowKit Base PagePlain PageSmall PageBytes PageLay PagePut PageTold PageSame PageSame2 PageAwake PageRooms PageSameL SumMem SumFill SumOf

structure One (W : World) (p : Pg) (A : Option Addr) (c g : Nat) (x : World) : Prop where
  a : PgAt x W.heap.size p A c
  rw : Row x W.heap.size A (strs p.cells)
  bl : Below W.heap.size W x
  gb : W.heap.size < g
  gx : g < x.heap.size
section
variable {W x y : World} {p : Pg} {A : Option Addr} {c g : Nat}
theorem One.below (h : One W p A c g x) (hb : Below x.heap.size x y) : One W p A c g y :=
  ⟨at_below h.a hb, h.rw.below (hb.mono h.bl.size), Below.step h.bl hb, h.gb, Nat.lt_of_lt_of_le h.gx hb.size⟩
theorem One.only (h : One W p A c g x) (ho : Only g x y) : One W p A c g y :=
  ⟨at_only h.a ho (by have := h.gb; omega), h.rw.below (ho.below (Nat.le_of_lt h.gb) h.gx), h.bl.trans (ho.below (by have := h.gb; omega) h.gx), h.gb, Nat.lt_of_lt_of_le h.gx ho.size⟩
theorem One.drew (h : One W p A c g x) : One W p A c g x.drew := ⟨h.a, h.rw, h.bl.drew, h.gb, h.gx⟩
theorem row_rowX1 {w : World} {B g : Nat} {A : Option Addr} {vs : List Value} (h : Row w B A vs) (hB : B ≤ g) (hs : B ≤ w.heap.size) : RowX w g A vs := fun k v hv => by
  obtain ⟨ad, e, hb, hc⟩ := h k v hv
  exact ⟨ad, e, by omega, by omega, hc⟩
theorem One.ra (h : One W p A c g x) : RowX x g A (strs p.cells) := row_rowX1 h.rw (Nat.le_of_lt h.gb) h.bl.size
theorem One.facts (h : One W p A c g x) : x.cell? ⟨W.heap.size, 0, none⟩ = some (.int .i64 p.kind) ∧ x.cell? ⟨W.heap.size, 1, none⟩ = some (.int .i64 p.no) ∧ x.cell? ⟨W.heap.size, 2, none⟩ = some (.int .i64 p.epoch) ∧ x.cell? ⟨W.heap.size, 3, none⟩ = some (.int .i64 p.link) ∧ x.cell? ⟨W.heap.size, 4, none⟩ = some (.slice A p.cells.length c) := five h.a
end
/-- the first steps of a law over a page: the summer -/
theorem one_new (W : World) (p : Pg) (A : Option Addr) (c : Nat) (hA : Row W W.heap.size A (strs p.cells)) :
    Calls Try.prog 10 #[] (W.alloc (.cells #[.int .i64 p.kind, .int .i64 p.no, .int .i64 p.epoch, .int .i64 p.link, .slice A p.cells.length c] 24)) fun e w' => ∃ g, e = .returned (.pointer (some ⟨g, 0, none⟩)) ∧ Ready w' g 0 ∧ One W p A c g w' := by
  refine (new_g _).mono ?_
  rintro e w1 ⟨g, rfl, hg, hx, hr, hb⟩
  have hb0 : Below W.heap.size W (W.alloc (.cells #[.int .i64 p.kind, .int .i64 p.no, .int .i64 p.epoch, .int .i64 p.link, .slice A p.cells.length c] 24)) := (Below.refl _ _).alloc (Nat.le_refl _) _
  have h1 : PgAt (W.alloc (.cells #[.int .i64 p.kind, .int .i64 p.no, .int .i64 p.epoch, .int .i64 p.link, .slice A p.cells.length c] 24)) W.heap.size p A c := heap_alloc_new W _
  have hg' : W.heap.size < g := by simp at hg; omega
  refine ⟨g, rfl, hr, at_below h1 hb, ?_, Below.step hb0 hb, hg', hx⟩
  exact hA.below (Below.step hb0 hb)
end Go.Proofs.Ytlcnnebnocjelaa.PageOne
