/- A node's block that is written: what reads elsewhere stays. -/
import Derived.Test.YtpcpfcllgadghaaNodeCheck
import Derived.Test.YtpcpfcllgadghaaInv
namespace Go.Proofs.Ytpcpfcllgadghaa.NodeBox
open Go.RowKit Base NodePlain NodeRead NodeSlice NodeCheck

def At (w : World) (g : Nat) (t : TypeId) (cs : Array Value) : Prop := w.heap[g]? = some (.cells cs t (0, 0))
theorem heap_lt {w : World} {b : Nat} {o : Obj} (h : w.heap[b]? = some o) : b < w.heap.size := by
  rcases Nat.lt_or_ge b w.heap.size with q | q
  · exact q
  · rw [Array.getElem?_eq_none q] at h; cases h
theorem At.below {w w' : World} {g : Nat} {t : TypeId} {cs : Array Value} (h : At w g t cs) (hb : Below w.heap.size w w') : At w' g t cs := (hb.block _ (heap_lt h)).trans h
theorem At.cell {w : World} {g : Nat} {t : TypeId} {cs : Array Value} (h : At w g t cs) (i : Nat) : w.cell? ⟨g, i, none⟩ = cs[i]? := by unfold At at h; simp [World.cell?, h]
theorem At.frozen {w : World} {g : Nat} {t : TypeId} {cs : Array Value} (h : At w g t cs) (i : Nat) : w.frozen? ⟨g, i, none⟩ = false := by unfold At at h; simp [World.frozen?, h]
theorem At.set {w : World} {g : Nat} {t : TypeId} {cs : Array Value} (h : At w g t cs) (i : Nat) (v : Value) : At (w.setCell ⟨g, i, none⟩ v) g t (cs.setIfInBounds i v) := by
  unfold At at h ⊢
  simp [World.setCell, Array.getElem?_modify, h]
theorem At.far {w : World} {g : Nat} {t : TypeId} {cs : Array Value} (h : At w g t cs) {p : Addr} (hp : g ≠ p.block) (u : Value) : At (w.setCell p u) g t cs := (Below.heap_setCell w p u g hp).trans h
theorem at_new (w : World) (cs : Array Value) (t : TypeId) : At (w.alloc (.cells cs t)) w.heap.size t cs := heap_alloc_new w _
theorem bstep {W w w' : World} {g : Nat} (h : Below g W w) (hg : g ≤ w.heap.size) (hb : Below w.heap.size w w') : Below g W w' := h.trans (hb.mono hg)
/-- the cells of a block of four, and that they may be written -/
structure F4 (w : World) (g : Nat) (a b c d : Value) : Prop where
  k0 : w.cell? ⟨g, 0, none⟩ = some a
  k1 : w.cell? ⟨g, 1, none⟩ = some b
  k2 : w.cell? ⟨g, 2, none⟩ = some c
  k3 : w.cell? ⟨g, 3, none⟩ = some d
  z0 : w.frozen? ⟨g, 0, none⟩ = false
  z1 : w.frozen? ⟨g, 1, none⟩ = false
  z2 : w.frozen? ⟨g, 2, none⟩ = false
  z3 : w.frozen? ⟨g, 3, none⟩ = false
theorem At.f4 {w : World} {g : Nat} {t : TypeId} {a b c d : Value} (h : At w g t #[a, b, c, d]) : F4 w g a b c d :=
  ⟨by rw [h.cell]; rfl, by rw [h.cell]; rfl, by rw [h.cell]; rfl, by rw [h.cell]; rfl, h.frozen 0, h.frozen 1, h.frozen 2, h.frozen 3⟩
/-- a block of four, written whole -/
def w4 (w : World) (g : Nat) (a b c d : Value) : World := (((w.setCell ⟨g, 0, none⟩ a).setCell ⟨g, 1, none⟩ b).setCell ⟨g, 2, none⟩ c).setCell ⟨g, 3, none⟩ d
theorem set4 {w : World} {g : Nat} {t : TypeId} {x0 x1 x2 x3 : Value} (h : At w g t #[x0, x1, x2, x3]) (a b c d : Value) : At (w4 w g a b c d) g t #[a, b, c, d] := by
  have q : ((((List.toArray [x0, x1, x2, x3]).setIfInBounds 0 a).setIfInBounds 1 b).setIfInBounds 2 c).setIfInBounds 3 d = #[a, b, c, d] := rfl
  rw [← q]
  exact (((h.set 0 a).set 1 b).set 2 c).set 3 d
theorem below4 {W w : World} {B g : Nat} (h : Below B W w) (hg : B ≤ g) (a b c d : Value) : Below B W (w4 w g a b c d) :=
  (((h.setCell (by exact hg) a).setCell (by exact hg) b).setCell (by exact hg) c).setCell (by exact hg) d
theorem size4 (w : World) (g : Nat) (a b c d : Value) : (w4 w g a b c d).heap.size = w.heap.size := by simp [w4]
theorem row_set {w : World} {B g i : Nat} {A : Option Addr} {vs : List Value} {u : Value} (h : Row w B A vs) (hA : ∀ ad, A = some ad → ad.block ≠ g) : Row (w.setCell ⟨g, i, none⟩ u) B A vs := fun k v hv => by
  obtain ⟨ad, e, hb, hc⟩ := h k v hv
  refine ⟨ad, e, hb, ?_⟩
  have hne := hA ad e
  rw [← hc]
  have hb2 : (w.setCell ⟨g, i, none⟩ u).heap[(ad.add k).block]? = w.heap[(ad.add k).block]? := Below.heap_setCell w _ u _ (by rw [blk_add]; exact hne)
  simp only [World.cell?]
  rw [hb2]
theorem row_4 {w : World} {B g : Nat} {A : Option Addr} {vs : List Value} {a b c d : Value} (h : Row w B A vs) (hA : ∀ ad, A = some ad → ad.block ≠ g) : Row (w4 w g a b c d) B A vs :=
  row_set (row_set (row_set (row_set h hA) hA) hA) hA
/-- a slice's value, what it reads, and that it lies in no block below lo -/
def SlO (lo : Nat) (vs : List Value) (v : Value) (w : World) : Prop := ∃ A m c, v = .slice A m c ∧ m = vs.length ∧ m ≤ c ∧ Row w w.heap.size A vs ∧ ∀ ad, A = some ad → lo ≤ ad.block
theorem SlO.below {lo : Nat} {vs : List Value} {v : Value} {w w' : World} (h : SlO lo vs v w) (hb : Below w.heap.size w w') : SlO lo vs v w' := by
  obtain ⟨A, m, c, h1, h2, h3, h4, h5⟩ := h
  exact ⟨A, m, c, h1, h2, h3, h4.belowSize hb, h5⟩
theorem SlO.sla {lo : Nat} {vs : List Value} {v : Value} {w : World} (h : SlO lo vs v w) : SlA vs v w := by
  obtain ⟨A, m, c, h1, h2, h3, h4, h5⟩ := h
  exact ⟨A, m, c, h1, h2, h3, h4⟩
theorem SlO.low {lo lo' : Nat} {vs : List Value} {v : Value} {w : World} (h : SlO lo vs v w) (hl : lo' ≤ lo) : SlO lo' vs v w := by
  obtain ⟨A, m, c, h1, h2, h3, h4, h5⟩ := h
  exact ⟨A, m, c, h1, h2, h3, h4, fun ad e => Nat.le_trans hl (h5 ad e)⟩
theorem SlO.st4 {lo g : Nat} {vs : List Value} {v : Value} {w : World} {a b c d : Value} (h : SlO lo vs v w) (hg : g < lo) : SlO lo vs v (w4 w g a b c d) := by
  obtain ⟨A, m, cc, h1, h2, h3, h4, h5⟩ := h
  exact ⟨A, m, cc, h1, h2, h3, by rw [size4]; exact row_4 h4 (fun ad e => by have := h5 ad e; omega), h5⟩
theorem slo_none {lo : Nat} {w : World} : SlO lo [] (.slice none 0 0) w := ⟨_, _, _, rfl, rfl, Nat.le_refl _, Row.nil, fun _ e => by cases e⟩
/-- a node's value, by what its lists read -/
def Nv (n : Nd) (v : Value) (w : World) : Prop := ∃ h : Hd, v = nv n h ∧ Lay w n h
theorem Nv.below {n : Nd} {v : Value} {w w' : World} (h : Nv n v w) (hb : Below w.heap.size w w') : Nv n v w' := by
  obtain ⟨h, h1, h2⟩ := h
  exact ⟨h, h1, h2.below hb⟩
theorem nv_mk {n : Nd} {a b c : Value} {w : World} (ha : SlA (strs n.keys) a w) (hb : SlA (strs n.vals) b w) (hc : SlA (ints n.kids) c w) : Nv n (.agg #[.bool n.leaf, a, b, c]) w := by
  obtain ⟨A, m, k, rfl, h1, h2, h3⟩ := ha
  obtain ⟨B, m2, k2, rfl, j1, j2, j3⟩ := hb
  obtain ⟨C, m3, k3, rfl, l1, l2, l3⟩ := hc
  rw [strs_len] at h1 j1
  rw [ints_len] at l1
  subst h1 j1 l1
  exact ⟨⟨A, k, B, k2, C, k3⟩, rfl, h3, j3, l3, h2, j2, l2⟩
/-- a node's value whose lists lie in no block below lo -/
def NvO (lo : Nat) (n : Nd) (v : Value) (w : World) : Prop := ∃ a b c, v = .agg #[.bool n.leaf, a, b, c] ∧ SlO lo (strs n.keys) a w ∧ SlO lo (strs n.vals) b w ∧ SlO lo (ints n.kids) c w
theorem NvO.below {lo : Nat} {n : Nd} {v : Value} {w w' : World} (h : NvO lo n v w) (hb : Below w.heap.size w w') : NvO lo n v w' := by
  obtain ⟨a, b, c, h1, h2, h3, h4⟩ := h
  exact ⟨a, b, c, h1, h2.below hb, h3.below hb, h4.below hb⟩
theorem NvO.low {lo lo' : Nat} {n : Nd} {v : Value} {w : World} (h : NvO lo n v w) (hl : lo' ≤ lo) : NvO lo' n v w := by
  obtain ⟨a, b, c, h1, h2, h3, h4⟩ := h
  exact ⟨a, b, c, h1, h2.low hl, h3.low hl, h4.low hl⟩
theorem NvO.nv {lo : Nat} {n : Nd} {v : Value} {w : World} (h : NvO lo n v w) : Nv n v w := by
  obtain ⟨a, b, c, rfl, h2, h3, h4⟩ := h
  exact nv_mk h2.sla h3.sla h4.sla
theorem NvO.st4 {lo g : Nat} {n : Nd} {v : Value} {w : World} {a b c d : Value} (h : NvO lo n v w) (hg : g < lo) : NvO lo n v (w4 w g a b c d) := by
  obtain ⟨a', b', c', rfl, h2, h3, h4⟩ := h
  exact ⟨a', b', c', rfl, h2.st4 hg, h3.st4 hg, h4.st4 hg⟩
/-- parts of a slice's value, for a walk -/
theorem SlO.form {lo : Nat} {vs : List Value} {v : Value} {w : World} (h : SlO lo vs v w) : ∃ A m c, v = .slice A m c := by
  obtain ⟨A, m, c, h, _⟩ := h
  exact ⟨A, m, c, h⟩
theorem own_slo {w : World} {lo c : Nat} {e : TypeId} {A : Option Addr} {xs : List Value} (h : Own w lo e A c xs) (m : Nat) (hm : m = xs.length) : SlO lo xs (.slice A m c) w :=
  ⟨A, m, c, rfl, hm, by rw [hm]; exact h.cap.1, h.row, fun ad e => (h.block ad.block (by rw [e]; rfl)).1⟩
section
variable (w : World) (v : Value) (ps : List (List Value))
theorem layO_s (hv : Pcs ps v w) (hl : ps.flatten.length ≤ 100000) (hp : ps.length ≤ 100) :
    Calls Try.prog 36 #[v] w fun e w' => ∃ A m c', e = .returned (.slice A m c') ∧ SlO w.heap.size ps.flatten (.slice A m c') w' ∧ Below w.heap.size w w' := by
  obtain ⟨P, m, c, rfl, hm, qs, rfl, hr, hs⟩ := hv
  rw [List.length_map] at hm hp
  rw [← List.flatMap_def] at hl ⊢
  refine (lay_any_s w P m c qs hm hr hs hl hp).mono ?_
  rintro e w' ⟨A, n, c', rfl, hn, hc, ho, hb⟩
  exact ⟨A, n, c', rfl, own_slo ho n hn, hb⟩
theorem layO_i (hv : Pcs ps v w) (hl : ps.flatten.length ≤ 100000) (hp : ps.length ≤ 100) :
    Calls Try.prog 52 #[v] w fun e w' => ∃ A m c', e = .returned (.slice A m c') ∧ SlO w.heap.size ps.flatten (.slice A m c') w' ∧ Below w.heap.size w w' := by
  obtain ⟨P, m, c, rfl, hm, qs, rfl, hr, hs⟩ := hv
  rw [List.length_map] at hm hp
  rw [← List.flatMap_def] at hl ⊢
  refine (lay_any_i w P m c qs hm hr hs hl hp).mono ?_
  rintro e w' ⟨A, n, c', rfl, hn, hc, ho, hb⟩
  exact ⟨A, n, c', rfl, own_slo ho n hn, hb⟩
end
end Go.Proofs.Ytpcpfcllgadghaa.NodeBox
