/- A node stored into a block of its own: what lists read stays. -/
import Derived.Test.YtpcpfcllgadghaaNodeLeaf
import Derived.Test.YtpcpfcllgadghaaNodeRooms
namespace Go.Proofs.Ytpcpfcllgadghaa.NodeStore
open Go.RowKit Base NodePlain NodeRead NodeSlice NodeCheck NodeBox NodeLeaf NodeRooms

def Plain (v : Value) : Prop := (∃ s, v = .string s) ∨ ∃ i, v = .int .i64 i
theorem plain_s (l : List ByteArray) : ∀ v ∈ strs l, Plain v := by intro u hu; obtain ⟨q, _, rfl⟩ := List.mem_map.1 hu; exact .inl ⟨q, rfl⟩
theorem plain_i (l : List Int) : ∀ v ∈ ints l, Plain v := by intro u hu; obtain ⟨q, _, rfl⟩ := List.mem_map.1 hu; exact .inr ⟨q, rfl⟩
/-- cells of a node's block -/
def Cs (cs : Array Value) : Prop := ∃ x A n c B m d C k e, cs = #[.bool x, .slice A n c, .slice B m d, .slice C k e]
theorem row_off {w : World} {B g : Nat} {t : TypeId} {cs : Array Value} {A : Option Addr} {vs : List Value} (hr : Row w B A vs) (hat : At w g t cs) (hc : Cs cs) (hp : ∀ v ∈ vs, Plain v) {k : Nat} {v : Value} (hv : vs[k]? = some v) : ∃ ad, A = some ad ∧ ad.block < B ∧ w.cell? (ad.add k) = some v ∧ ad.block ≠ g := by
  obtain ⟨ad, e, hb, hcell⟩ := hr k v hv
  refine ⟨ad, e, hb, hcell, fun q => ?_⟩
  have hcs : cs[(ad.add k).off]? = some v := by
    unfold At at hat
    cases hs : (ad.add k).spot with
    | none => simpa [World.cell?, blk_add, q, hat, hs] using hcell
    | some _ => simp [World.cell?, blk_add, q, hat, hs] at hcell
  have hm := hp v (List.mem_of_getElem? hv)
  obtain ⟨x, A1, n1, c1, A2, n2, c2, A3, n3, c3, rfl⟩ := hc
  generalize (ad.add k).off = o at hcs
  rcases o with _ | _ | _ | _ | o
  · simp at hcs; subst hcs; rcases hm with ⟨s, h⟩ | ⟨s, h⟩ <;> cases h
  · simp at hcs; subst hcs; rcases hm with ⟨s, h⟩ | ⟨s, h⟩ <;> cases h
  · simp at hcs; subst hcs; rcases hm with ⟨s, h⟩ | ⟨s, h⟩ <;> cases h
  · simp at hcs; subst hcs; rcases hm with ⟨s, h⟩ | ⟨s, h⟩ <;> cases h
  · simp at hcs
theorem row_at4 {w : World} {B g : Nat} {t : TypeId} {cs : Array Value} {A : Option Addr} {vs : List Value} {a b c d : Value} (hr : Row w B A vs) (hat : At w g t cs) (hc : Cs cs) (hp : ∀ v ∈ vs, Plain v) : Row (w4 w g a b c d) B A vs := fun k v hv => by
  obtain ⟨ad, e, hb, hcell, hne⟩ := row_off hr hat hc hp hv
  refine ⟨ad, e, hb, ?_⟩
  have h1 : (w4 w g a b c d).heap[(ad.add k).block]? = w.heap[(ad.add k).block]? := by
    rw [blk_add]
    unfold w4
    rw [Below.heap_setCell _ _ _ _ hne, Below.heap_setCell _ _ _ _ hne, Below.heap_setCell _ _ _ _ hne, Below.heap_setCell _ _ _ _ hne]
  rw [← hcell]
  simp only [World.cell?]
  rw [h1]
theorem lay_w4 {w : World} {g : Nat} {t : TypeId} {cs : Array Value} {m : Nd} {h : Hd} {a b c d : Value} (l : Lay w m h) (hat : At w g t cs) (hc : Cs cs) : Lay (w4 w g a b c d) m h :=
  ⟨by rw [size4]; exact row_at4 l.k hat hc (plain_s _), by rw [size4]; exact row_at4 l.v hat hc (plain_s _), by rw [size4]; exact row_at4 l.d hat hc (plain_i _), l.kc, l.vc, l.dc⟩
theorem cs_z : Cs #[.bool false, .slice none 0 0, .slice none 0 0, .slice none 0 0] := ⟨_, _, _, _, _, _, _, _, _, _, rfl⟩
/-- a new node's block, empty -/
def Nz (lo : Nat) (v : Value) (w : World) : Prop := ∃ g, v = .pointer (some ⟨g, 0, none⟩) ∧ lo ≤ g ∧ At w g 25 #[.bool false, .slice none 0 0, .slice none 0 0, .slice none 0 0]
theorem Nz.below {lo : Nat} {v : Value} {w w' : World} (h : Nz lo v w) (hb : Below w.heap.size w w') : Nz lo v w' := by
  obtain ⟨g, h1, h2, h3⟩ := h
  exact ⟨g, h1, h2, h3.below hb⟩
/-- a node in its block -/
theorem bx_at {w : World} {g : Nat} {t : TypeId} {m : Nd} {h : Hd} (hat : At w g t #[.bool m.leaf, .slice h.K m.keys.length h.kc, .slice h.V m.vals.length h.vc, .slice h.D m.kids.length h.dc]) : Bx w g m h := by
  obtain ⟨p0, p1, p2, p3, _⟩ := hat.f4
  exact ⟨p0, p1, p2, p3, heap_lt hat⟩
theorem _root_.Go.Proofs.Ytpcpfcllgadghaa.NodeCheck.Bx.w4 {w : World} {g x : Nat} {m : Nd} {h : Hd} {a b c d : Value} (hx : Bx w x m h) (hg : x ≠ g) : Bx (NodeBox.w4 w g a b c d) x m h := by
  have h1 : (NodeBox.w4 w g a b c d).heap[x]? = w.heap[x]? := by
    unfold NodeBox.w4
    rw [Below.heap_setCell _ _ _ _ hg, Below.heap_setCell _ _ _ _ hg, Below.heap_setCell _ _ _ _ hg, Below.heap_setCell _ _ _ _ hg]
  exact ⟨by rw [← hx.c0]; simp only [World.cell?]; rw [h1], by rw [← hx.c1]; simp only [World.cell?]; rw [h1], by rw [← hx.c2]; simp only [World.cell?]; rw [h1], by rw [← hx.c3]; simp only [World.cell?]; rw [h1], by rw [size4]; exact hx.lt⟩
/-- a law's begin: a node in a box, two texts in the next -/
def BegV (W : World) (n : Nd) (h : Hd) (sx sy : ByteArray) (w' : World) : Prop := Bx w' W.heap.size n h ∧ Lay w' n h ∧ Below W.heap.size W w' ∧ w'.cell? ⟨W.heap.size + 1, 0, none⟩ = some (.string sx) ∧ w'.cell? ⟨W.heap.size + 1, 1, none⟩ = some (.string sy) ∧ W.heap.size + 2 ≤ w'.heap.size
theorem BegV.below {W w w' : World} {n : Nd} {h : Hd} {sx sy : ByteArray} (s : BegV W n h sx sy w) (hb : Below w.heap.size w w') : BegV W n h sx sy w' :=
  ⟨s.1.below hb, s.2.1.below hb, bstep s.2.2.1 s.2.2.1.size hb, (hb.cell (p := ⟨W.heap.size + 1, 0, none⟩) (by have := s.2.2.2.2.2; show W.heap.size + 1 < _; omega)).trans s.2.2.2.1, (hb.cell (p := ⟨W.heap.size + 1, 1, none⟩) (by have := s.2.2.2.2.2; show W.heap.size + 1 < _; omega)).trans s.2.2.2.2.1, Nat.le_trans s.2.2.2.2.2 hb.size⟩
theorem begV {W : World} {n : Nd} {h : Hd} {sx sy : ByteArray} {t : TypeId} (hL : Lay W n h) : ∀ w', Below ((box W n h).alloc (.cells #[.string sx, .string sy] t)).heap.size ((box W n h).alloc (.cells #[.string sx, .string sy] t)) w' → BegV W n h sx sy w' := by
  have b1 := box_below W n h
  have b2 := al (box W n h) (.cells #[.string sx, .string sy] t)
  have s1 : (box W n h).heap.size = W.heap.size + 1 := by simp
  have hat := at_new (box W n h) #[.string sx, .string sy] t
  rw [s1] at hat
  have hs : BegV W n h sx sy ((box W n h).alloc (.cells #[.string sx, .string sy] t)) := ⟨(bx_new W n h).below b2, (hL.below b1).below b2, Below.step b1 b2, by rw [hat.cell]; rfl, by rw [hat.cell]; rfl, by simp⟩
  exact fun w' hb => hs.below hb
theorem BegV.w4 {W w : World} {n : Nd} {h : Hd} {sx sy : ByteArray} {g : Nat} {t : TypeId} {cs : Array Value} {a b c d : Value} (s : BegV W n h sx sy w) (hat : At w g t cs) (hc : Cs cs) (hg : W.heap.size + 2 ≤ g) : BegV W n h sx sy (NodeBox.w4 w g a b c d) := by
  have h1 : (NodeBox.w4 w g a b c d).heap[W.heap.size + 1]? = w.heap[W.heap.size + 1]? := by
    have hg : W.heap.size + 1 ≠ g := by omega
    unfold NodeBox.w4
    rw [Below.heap_setCell _ _ _ _ hg, Below.heap_setCell _ _ _ _ hg, Below.heap_setCell _ _ _ _ hg, Below.heap_setCell _ _ _ _ hg]
  exact ⟨s.1.w4 (by omega), lay_w4 s.2.1 hat hc, below4 s.2.2.1 (by omega) _ _ _ _, by rw [← s.2.2.2.1]; simp only [World.cell?]; rw [h1], by rw [← s.2.2.2.2.1]; simp only [World.cell?]; rw [h1], by rw [size4]; exact s.2.2.2.2.2⟩
end Go.Proofs.Ytpcpfcllgadghaa.NodeStore
