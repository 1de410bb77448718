/- Two pages in boxes of their own, and a summer behind them. -/
import Derived.Test.YtlcnnebnocjelaaPageSameL
namespace Go.Proofs.Ytlcnnebnocjelaa.PageTwo
open Go.RowKit Base PagePlain PageSmall PageBytes PageLay PagePut PageTold PageSame PageSame2 PageAwake PageRooms PageSameL SumMem SumFill SumOf

structure Two (W : World) (p q : Pg) (A B : Option Addr) (c d g : Nat) (x : World) : Prop where
  a : PgAt x W.heap.size p A c
  b : PgAt x (W.heap.size + 1) q B d
  ra : RowX x g A (strs p.cells)
  rb : RowX x g B (strs q.cells)
  bl : Below W.heap.size W x
  gb : W.heap.size + 1 < g
  gx : g < x.heap.size
section
variable {W x y : World} {p q : Pg} {A B : Option Addr} {c d g : Nat}
theorem Two.below (h : Two W p q A B c d g x) (hb : Below x.heap.size x y) : Two W p q A B c d g y :=
  ⟨at_below h.a hb, at_below h.b hb, h.ra.below hb, h.rb.below hb, Below.step h.bl hb, h.gb, Nat.lt_of_lt_of_le h.gx hb.size⟩
theorem Two.only (h : Two W p q A B c d g x) (ho : Only g x y) : Two W p q A B c d g y :=
  ⟨at_only h.a ho (by have := h.gb; omega), at_only h.b ho (by have := h.gb; omega), h.ra.only ho, h.rb.only ho, h.bl.trans (ho.below (by have := h.gb; omega) h.gx), h.gb, Nat.lt_of_lt_of_le h.gx ho.size⟩
theorem Two.drew (h : Two W p q A B c d g x) : Two W p q A B c d g x.drew := ⟨h.a, h.b, h.ra, h.rb, h.bl.drew, h.gb, h.gx⟩
theorem Two.facts (h : Two W p q A B c d g x) : x.cell? ⟨W.heap.size, 0, none⟩ = some (.int .i64 p.kind) ∧ x.cell? ⟨W.heap.size, 1, none⟩ = some (.int .i64 p.no) ∧ x.cell? ⟨W.heap.size, 2, none⟩ = some (.int .i64 p.epoch) ∧ x.cell? ⟨W.heap.size, 3, none⟩ = some (.int .i64 p.link) ∧ x.cell? ⟨W.heap.size, 4, none⟩ = some (.slice A p.cells.length c) ∧ x.cell? ⟨W.heap.size + 1, 0, none⟩ = some (.int .i64 q.kind) ∧ x.cell? ⟨W.heap.size + 1, 1, none⟩ = some (.int .i64 q.no) ∧ x.cell? ⟨W.heap.size + 1, 2, none⟩ = some (.int .i64 q.epoch) ∧ x.cell? ⟨W.heap.size + 1, 3, none⟩ = some (.int .i64 q.link) ∧ x.cell? ⟨W.heap.size + 1, 4, none⟩ = some (.slice B q.cells.length d) := by
  obtain ⟨x0, x1, x2, x3, x4⟩ := five h.a
  obtain ⟨y0, y1, y2, y3, y4⟩ := five h.b
  exact ⟨x0, x1, x2, x3, x4, y0, y1, y2, y3, y4⟩
theorem row_rowX {w : World} {B g : Nat} {A : Option Addr} {vs : List Value} (h : Row w B A vs) (hB : B ≤ g) (hs : B ≤ w.heap.size) : RowX w g A vs := fun k v hv => by
  obtain ⟨ad, e, hb, hc⟩ := h k v hv
  exact ⟨ad, e, by omega, by omega, hc⟩
end
/-- the first steps of a law over two pages: the summer -/
theorem two_new (W : World) (p q : Pg) (A B : Option Addr) (c d : Nat) (hA : Row W W.heap.size A (strs p.cells)) (hB : Row W W.heap.size B (strs q.cells)) :
    Calls Try.prog 10 #[] ((W.alloc (.cells #[.int .i64 p.kind, .int .i64 p.no, .int .i64 p.epoch, .int .i64 p.link, .slice A p.cells.length c] 24)).alloc (.cells #[.int .i64 q.kind, .int .i64 q.no, .int .i64 q.epoch, .int .i64 q.link, .slice B q.cells.length d] 24)) fun e w' => ∃ g, e = .returned (.pointer (some ⟨g, 0, none⟩)) ∧ Ready w' g 0 ∧ Two W p q A B c d g w' := by
  refine (new_g _).mono ?_
  rintro e w1 ⟨g, rfl, hg, hx, hr, hb⟩
  have hb0 : Below W.heap.size W ((W.alloc (.cells #[.int .i64 p.kind, .int .i64 p.no, .int .i64 p.epoch, .int .i64 p.link, .slice A p.cells.length c] 24)).alloc (.cells #[.int .i64 q.kind, .int .i64 q.no, .int .i64 q.epoch, .int .i64 q.link, .slice B q.cells.length d] 24)) := ((Below.refl _ _).alloc (Nat.le_refl _) _).alloc (by simp) _
  have h1 : PgAt ((W.alloc (.cells #[.int .i64 p.kind, .int .i64 p.no, .int .i64 p.epoch, .int .i64 p.link, .slice A p.cells.length c] 24)).alloc (.cells #[.int .i64 q.kind, .int .i64 q.no, .int .i64 q.epoch, .int .i64 q.link, .slice B q.cells.length d] 24)) W.heap.size p A c := by
    show _ = _
    rw [Below.heap_alloc _ _ _ (by simp), heap_alloc_new]
  have h2 : PgAt ((W.alloc (.cells #[.int .i64 p.kind, .int .i64 p.no, .int .i64 p.epoch, .int .i64 p.link, .slice A p.cells.length c] 24)).alloc (.cells #[.int .i64 q.kind, .int .i64 q.no, .int .i64 q.epoch, .int .i64 q.link, .slice B q.cells.length d] 24)) (W.heap.size + 1) q B d := by
    have := heap_alloc_new (W.alloc (.cells #[.int .i64 p.kind, .int .i64 p.no, .int .i64 p.epoch, .int .i64 p.link, .slice A p.cells.length c] 24)) (.cells #[.int .i64 q.kind, .int .i64 q.no, .int .i64 q.epoch, .int .i64 q.link, .slice B q.cells.length d] 24)
    show _ = _
    simpa using this
  have hg' : W.heap.size + 1 < g := by simp at hg; omega
  refine ⟨g, rfl, hr, at_below h1 hb, at_below h2 hb, ?_, ?_, Below.step hb0 hb, hg', hx⟩
  · exact row_rowX (hA.below (Below.step hb0 hb)) (by omega) (Below.step hb0 hb).size
  · exact row_rowX (hB.below (Below.step hb0 hb)) (by omega) (Below.step hb0 hb).size
end Go.Proofs.Ytlcnnebnocjelaa.PageTwo
