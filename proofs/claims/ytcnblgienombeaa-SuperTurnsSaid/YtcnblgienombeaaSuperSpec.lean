/- What the laws ask of the program's own calls: stated here, proved for the code elsewhere. -/
import Derived.Test.YtcnblgienombeaaSuperRefPut
import Derived.Test.YtcnblgienombeaaSuperPlumb
namespace Go.Proofs.Ytcnblgienombeaa.SuperSpec
open Go.RowKit Base SumPlain SumMem SumFill SumOf PagePlain PageSmall PageBytes PageLay PagePut PageFour PageAwake SuperPlain SuperRefCheck SuperPlumb

def zer : Sp := ⟨0, 0, 0, 0⟩
/-- the summer serves on, and nothing else has turned -/
def On (g : Nat) (n : Int) (W w' : World) : Prop := (∃ n', n ≤ n' ∧ n' ≤ n + 2000 ∧ Ready w' g n') ∧ Only g W w'
def ansOf (a : Int ⊕ Sp) : Value := match a with
  | .inl k => .tuple #[sv zer, .int .i64 k]
  | .inr x => .tuple #[sv x, .int .i64 0]
structure Specs : Prop where
  check : ∀ W x, InS x → Calls Try.prog 12 #[sv x] W fun e w' => e = .returned (.bool (decide (Ok x))) ∧ Below W.heap.size W w'
  next : ∀ W x r f p, 0 ≤ x.ep → x.ep ≤ 4294967295 → Calls Try.prog 17 #[sv x, .int .i64 r, .int .i64 f, .int .i64 p] W fun e w' => e = .returned (sv (next x r f p)) ∧ Below W.heap.size W w'
  put : ∀ g n W x, Ready W g n → 0 ≤ n → n ≤ 800000000 → InS x → Calls Try.prog 10 #[.pointer (some ⟨g, 0, none⟩), sv x] W fun e w' => On g n W w' ∧
    ((Ok x ∧ ∃ b t, e = .returned (.tuple #[.slice (some ⟨b, 0, none⟩) 256 256, .int .i64 (x.ep % 2), .int .i64 0]) ∧ W.heap.size ≤ b ∧ Arr w' b t (sbytes x)) ∨ (¬ Ok x ∧ e = .returned (.tuple #[.slice none 0 0, .int .i64 0, .int .i64 70])))
  get : ∀ g n W s ad c l, Ready W g n → 0 ≤ n → n ≤ 800000000 → RowX W g (some ad) (bv l) → l.length = 256 → 256 ≤ c → Calls Try.prog 13 #[.pointer (some ⟨g, 0, none⟩), .int .i64 s, .slice (some ad) 256 c] W fun e w' => e = .returned (ansOf (getS s l)) ∧ On g n W w'
  pick : ∀ g n W ad bd c d l q, Ready W g n → 0 ≤ n → n ≤ 800000000 → RowX W g (some ad) (bv l) → RowX W g (some bd) (bv q) → l.length = 256 → q.length = 256 → 256 ≤ c → 256 ≤ d → Calls Try.prog 16 #[.pointer (some ⟨g, 0, none⟩), .slice (some ad) 256 c, .slice (some bd) 256 d] W fun e w' => e = .returned (ansOf (pickS l q)) ∧ On g n W w'
/-- a boxed super -/
def Bs (w : World) (b : Nat) (x : Sp) : Prop := At w b 23 #[.int .i64 x.ep, .int .i64 x.root, .int .i64 x.free, .int .i64 x.pages]
theorem bs_new (w : World) (x : Sp) : Bs (w.alloc (.cells #[.int .i64 x.ep, .int .i64 x.root, .int .i64 x.free, .int .i64 x.pages] 23)) w.heap.size x := heap_alloc_new w _
section
variable {w w' : World} {b g : Nat} {x : Sp}
theorem Bs.cells (h : Bs w b x) : w.cell? ⟨b, 0, none⟩ = some (.int .i64 x.ep) ∧ w.cell? ⟨b, 1, none⟩ = some (.int .i64 x.root) ∧ w.cell? ⟨b, 2, none⟩ = some (.int .i64 x.free) ∧ w.cell? ⟨b, 3, none⟩ = some (.int .i64 x.pages) := by
  have hh : w.heap[b]? = some _ := h
  refine ⟨?_, ?_, ?_, ?_⟩ <;> simp [World.cell?, hh]
theorem Bs.lt (h : Bs w b x) : b < w.heap.size := At.lt h
theorem Bs.below (h : Bs w b x) (hb : Below w.heap.size w w') : Bs w' b x := at_below h hb
theorem Bs.far (h : Bs w b x) {p : Addr} (hp : b ≠ p.block) (u : Value) : Bs (w.setCell p u) b x := (Below.heap_setCell w p u b hp).trans h
theorem Bs.only (h : Bs w b x) (ho : Only g w w') (hg : b ≠ g) : Bs w' b x := at_only h ho hg
end
theorem arr_far {w : World} {b : Nat} {t : TypeId} {l : List UInt8} (h : Arr w b t l) {p : Addr} (hp : b ≠ p.block) (u : Value) : Arr (w.setCell p u) b t l := (Below.heap_setCell w p u b hp).trans h
theorem al' (w : World) (o : Obj) : Below w.heap.size w (w.alloc o) := (Below.refl _ _).alloc (Nat.le_refl _) _
/-- the law's own start: a summer, and what has turned since -/
structure Sg (W : World) (g : Nat) (k : Int) (w : World) : Prop where
  r : ∃ n, 0 ≤ n ∧ n ≤ k ∧ Ready w g n
  lo : W.heap.size ≤ g
  lt : g < w.heap.size
  base : Below W.heap.size W w
section
variable {W w w' : World} {g : Nat} {k : Int}
theorem Sg.below (h : Sg W g k w) (hb : Below w.heap.size w w') : Sg W g k w' := by
  obtain ⟨⟨n, h0, h1, hr⟩, lo, lt, base⟩ := h
  exact ⟨⟨n, h0, h1, Ready.below hr hb⟩, lo, Nat.lt_of_lt_of_le lt hb.size, base.trans (hb.mono base.size)⟩
theorem Sg.far (h : Sg W g k w) {p : Addr} (hp : g ≠ p.block) (hW : W.heap.size ≤ p.block) (u : Value) : Sg W g k (w.setCell p u) := by
  obtain ⟨⟨n, h0, h1, hr⟩, lo, lt, base⟩ := h
  exact ⟨⟨n, h0, h1, PageGet.ready_far hr p hp u⟩, lo, by simpa [World.setCell] using lt, base.setCell hW u⟩
theorem Sg.on (h : Sg W g k w) {n : Int} (hn : n ≤ k) (h0 : 0 ≤ n) (ho : On g n w w') : Sg W g (k + 2000) w' := by
  obtain ⟨⟨n', a, b, hr⟩, only⟩ := ho
  exact ⟨⟨n', by omega, by omega, hr⟩, h.lo, Nat.lt_of_lt_of_le h.lt only.size, h.base.trans (only.below h.lo h.lt)⟩
end
/-- with no more said of how far the summer is than that there is room -/
theorem new_s (W : World) : Calls Try.prog 8 #[] W fun e w' => ∃ g, e = .returned (.pointer (some ⟨g, 0, none⟩)) ∧ Sg W g 0 w' :=
  (new_g W).mono fun _ _ ⟨g, h1, h2, h3, h4, h5⟩ => ⟨g, h1, ⟨0, by omega, by omega, h4⟩, h2, h3, h5⟩
/-- the same, where something was made before -/
theorem new_t {W w : World} (hb : Below W.heap.size W w) : Calls Try.prog 8 #[] w fun e w' => ∃ g, e = .returned (.pointer (some ⟨g, 0, none⟩)) ∧ Sg W g 0 w' ∧ Below w.heap.size w w' ∧ w.heap.size ≤ g :=
  (new_g w).mono fun _ _ ⟨g, h1, h2, h3, h4, h5⟩ => ⟨g, h1, ⟨⟨0, by omega, by omega, h4⟩, Nat.le_trans hb.size h2, h3, hb.trans (h5.mono hb.size)⟩, h5, h2⟩
section
variable (S : Specs) {W w : World} {g : Nat} {k : Int}
include S
theorem put_s (h : Sg W g k w) (hk : k ≤ 800000000) (x : Sp) (hx : InS x) : Calls Try.prog 10 #[.pointer (some ⟨g, 0, none⟩), sv x] w fun e w' => Sg W g (k + 2000) w' ∧ Only g w w' ∧
    ((Ok x ∧ ∃ b t, e = .returned (.tuple #[.slice (some ⟨b, 0, none⟩) 256 256, .int .i64 (x.ep % 2), .int .i64 0]) ∧ w.heap.size ≤ b ∧ Arr w' b t (sbytes x)) ∨ (¬ Ok x ∧ e = .returned (.tuple #[.slice none 0 0, .int .i64 0, .int .i64 70]))) := by
  obtain ⟨n, h0, h1, hr⟩ := h.r
  exact (S.put g n w x hr h0 (by omega) hx).mono fun e w' ⟨a, b⟩ => ⟨h.on h1 h0 a, a.2, b⟩
theorem get_s (h : Sg W g k w) (hk : k ≤ 800000000) (s : Int) (ad : Addr) (c : Nat) (l : List UInt8) (hr : RowX w g (some ad) (bv l)) (hl : l.length = 256) (hc : 256 ≤ c) : Calls Try.prog 13 #[.pointer (some ⟨g, 0, none⟩), .int .i64 s, .slice (some ad) 256 c] w fun e w' => e = .returned (ansOf (getS s l)) ∧ Sg W g (k + 2000) w' ∧ Only g w w' := by
  obtain ⟨n, h0, h1, hn⟩ := h.r
  exact (S.get g n w s ad c l hn h0 (by omega) hr hl hc).mono fun e w' ⟨a, b⟩ => ⟨a, h.on h1 h0 b, b.2⟩
theorem pick_s (h : Sg W g k w) (hk : k ≤ 800000000) (ad bd : Addr) (c d : Nat) (l q : List UInt8) (hr : RowX w g (some ad) (bv l)) (hq : RowX w g (some bd) (bv q)) (hl : l.length = 256) (hm : q.length = 256) (hc : 256 ≤ c) (hd : 256 ≤ d) :
    Calls Try.prog 16 #[.pointer (some ⟨g, 0, none⟩), .slice (some ad) 256 c, .slice (some bd) 256 d] w fun e w' => e = .returned (ansOf (pickS l q)) ∧ Sg W g (k + 2000) w' ∧ Only g w w' := by
  obtain ⟨n, h0, h1, hn⟩ := h.r
  exact (S.pick g n w ad bd c d l q hn h0 (by omega) hr hq hl hm hc hd).mono fun e w' ⟨a, b⟩ => ⟨a, h.on h1 h0 b, b.2⟩
end
end Go.Proofs.Ytcnblgienombeaa.SuperSpec
