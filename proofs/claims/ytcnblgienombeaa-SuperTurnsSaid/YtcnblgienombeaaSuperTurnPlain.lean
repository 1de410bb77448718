/- For SuperTurns: what holds between two rounds; supers and slots written over. -/
import Derived.Test.YtcnblgienombeaaSuperAwake
import Derived.Test.YtcnblgienombeaaBlk
namespace Go.Proofs.Ytcnblgienombeaa.SuperTurnPlain
open Go.RowKit Base SumPlain SumMem SumFill SumOf PagePlain PageSmall PageBytes PageLay PagePut PageFour PageAwake SuperPlain SuperRefCheck SuperPlumb SuperSpec SuperAwake

/-- a super written over a boxed one -/
def over (w : World) (b : Nat) (n : Sp) : World := (((w.setCell ⟨b, 0, none⟩ (.int .i64 n.ep)).setCell ⟨b, 1, none⟩ (.int .i64 n.root)).setCell ⟨b, 2, none⟩ (.int .i64 n.free)).setCell ⟨b, 3, none⟩ (.int .i64 n.pages)
theorem over_at {w : World} {b : Nat} {x : Sp} (h : Bs w b x) (n : Sp) : Bs (over w b n) b n := by
  have h4 := At.set (At.set (At.set (At.set (show At w b 23 #[.int .i64 x.ep, .int .i64 x.root, .int .i64 x.free, .int .i64 x.pages] from h) 0 (.int .i64 n.ep)) 1 (.int .i64 n.root)) 2 (.int .i64 n.free)) 3 (.int .i64 n.pages)
  exact h4
theorem over_far {w : World} {b c : Nat} (n : Sp) (hc : c ≠ b) : (over w b n).heap[c]? = w.heap[c]? := by
  unfold over
  rw [Below.heap_setCell _ _ _ _ hc, Below.heap_setCell _ _ _ _ hc, Below.heap_setCell _ _ _ _ hc, Below.heap_setCell _ _ _ _ hc]
theorem over_size (w : World) (b : Nat) (n : Sp) : (over w b n).heap.size = w.heap.size := by simp [over, World.setCell]
theorem over_sg {W w : World} {g : Nat} {k : Int} {b : Nat} (h : Sg W g k w) (hb : g ≠ b) (hW : W.heap.size ≤ b) (n : Sp) : Sg W g k (over w b n) :=
  (((h.far (p := ⟨b, 0, none⟩) hb hW _).far (p := ⟨b, 1, none⟩) hb hW _).far (p := ⟨b, 2, none⟩) hb hW _).far (p := ⟨b, 3, none⟩) hb hW _
theorem cell_same {w w' : World} {p : Addr} (h : w'.heap[p.block]? = w.heap[p.block]?) : w'.cell? p = w.cell? p := by
  simp [World.cell?, h]
theorem rowx_same {w w' : World} {g p : Nat} {vs : List Value} (h : RowX w g (some ⟨p, 0, none⟩) vs) (hs : w.heap.size ≤ w'.heap.size) (he : w'.heap[p]? = w.heap[p]?) : RowX w' g (some ⟨p, 0, none⟩) vs := fun k v hv => by
  obtain ⟨ad, e, h1, h2, h3⟩ := h k v hv
  injection e with e
  subst e
  refine ⟨_, rfl, Nat.lt_of_lt_of_le h1 hs, h2, ?_⟩
  rw [← h3]
  exact cell_same (by rw [blk_add]; exact he)
/-- the next super goes to the other slot, and is picked -/
theorem pick_next {cur n : Sp} {l0 l1 : List UInt8} (hc : Ok cur) (hn : Ok n) (he : n.ep = cur.ep + 1) (h : (if cur.ep % 2 = 0 then l0 else l1) = sbytes cur) :
    pickS (if n.ep % 2 = 0 then sbytes n else l0) (if n.ep % 2 = 0 then l1 else sbytes n) = .inr n := by
  by_cases q : n.ep % 2 = 0
  · rw [if_neg (by omega)] at h
    rw [if_pos q, if_pos q, h, pick_two hn hc q (by omega), if_pos (by omega)]
  · rw [if_pos (by omega)] at h
    rw [if_neg q, if_neg q, h, pick_two hc hn (by omega) (by omega), if_neg (by omega)]
/-- between two rounds: the summer, the super that was told last, the two slots -/
structure JX (W : World) (g bx bs p0 p1 c0 c1 : Nat) (l0 l1 : List UInt8) (cur : Sp) (m : Int) (w : World) : Prop where
  js : Sg W g m w
  jx : Bs w bx cur
  jb : At w bs 48 #[.slice (some ⟨p0, 0, none⟩) 256 c0, .slice (some ⟨p1, 0, none⟩) 256 c1]
  r0 : RowX w g (some ⟨p0, 0, none⟩) (bv l0)
  r1 : RowX w g (some ⟨p1, 0, none⟩) (bv l1)
theorem JX.below {W w w' : World} {g bx bs p0 p1 c0 c1 : Nat} {l0 l1 : List UInt8} {cur : Sp} {m : Int} (h : JX W g bx bs p0 p1 c0 c1 l0 l1 cur m w) (hb : Below w.heap.size w w') : JX W g bx bs p0 p1 c0 c1 l0 l1 cur m w' :=
  ⟨h.js.below hb, h.jx.below hb, at_below h.jb hb, h.r0.below hb, h.r1.below hb⟩
theorem JX.wide {W w : World} {g bx bs p0 p1 c0 c1 : Nat} {l0 l1 : List UInt8} {cur : Sp} {m m' : Int} (h : JX W g bx bs p0 p1 c0 c1 l0 l1 cur m w) (hm : m ≤ m') : JX W g bx bs p0 p1 c0 c1 l0 l1 cur m' w := by
  obtain ⟨⟨⟨n, h0, h1, hr⟩, lo, lt, base⟩, jx, jb, r0, r1⟩ := h
  exact ⟨⟨⟨n, h0, by omega, hr⟩, lo, lt, base⟩, jx, jb, r0, r1⟩
theorem JX.boxed {W w : World} {g bx bs p0 p1 c0 c1 : Nat} {l0 l1 : List UInt8} {cur : Sp} {m : Int} (h : JX W g bx bs p0 p1 c0 c1 l0 l1 cur m w) (b : Nat) (n : Sp) (hg : g ≠ b) (hW : W.heap.size ≤ b) (hx : bx ≠ b) (hs : bs ≠ b) (h0 : p0 ≠ b) (h1 : p1 ≠ b) : JX W g bx bs p0 p1 c0 c1 l0 l1 cur m (over w b n) :=
  ⟨over_sg h.js hg hW n, (over_far n hx).trans h.jx, (over_far n hs).trans h.jb, rowx_same h.r0 (Nat.le_of_eq (over_size w b n).symm) (over_far n h0), rowx_same h.r1 (Nat.le_of_eq (over_size w b n).symm) (over_far n h1)⟩
/-- a slot and the super that was told last, written over -/
theorem JX.told0 {W w : World} {g bx bs p0 p1 c0 c1 q c : Nat} {l0 l1 l : List UInt8} {cur : Sp} {m : Int} (h : JX W g bx bs p0 p1 c0 c1 l0 l1 cur m w) (n : Sp) (hq : RowX w g (some ⟨q, 0, none⟩) (bv l)) (hg : g ≠ bx ∧ g ≠ bs) (hW : W.heap.size ≤ bx ∧ W.heap.size ≤ bs) (hx : bx ≠ bs) (h1 : p1 ≠ bx ∧ p1 ≠ bs) (h2 : q ≠ bx ∧ q ≠ bs) :
    JX W g bx bs q p1 c c1 l l1 n m (over (w.setCell ⟨bs, 0, none⟩ (.slice (some ⟨q, 0, none⟩) 256 c)) bx n) := by
  have hz : (over (w.setCell ⟨bs, 0, none⟩ (.slice (some ⟨q, 0, none⟩) 256 c)) bx n).heap.size = w.heap.size := by rw [over_size]; simp [World.setCell]
  have hf : ∀ r, r ≠ bx → r ≠ bs → (over (w.setCell ⟨bs, 0, none⟩ (.slice (some ⟨q, 0, none⟩) 256 c)) bx n).heap[r]? = w.heap[r]? := fun r hr hs => (over_far n hr).trans (Below.heap_setCell _ _ _ _ hs)
  refine ⟨over_sg (h.js.far hg.2 hW.2 _) hg.1 hW.1 n, over_at (h.jx.far hx _) n, (over_far n hx.symm).trans (At.set h.jb 0 _), rowx_same hq (Nat.le_of_eq hz.symm) (hf q h2.1 h2.2), rowx_same h.r1 (Nat.le_of_eq hz.symm) (hf p1 h1.1 h1.2)⟩
theorem JX.told1 {W w : World} {g bx bs p0 p1 c0 c1 q c : Nat} {l0 l1 l : List UInt8} {cur : Sp} {m : Int} (h : JX W g bx bs p0 p1 c0 c1 l0 l1 cur m w) (n : Sp) (hq : RowX w g (some ⟨q, 0, none⟩) (bv l)) (hg : g ≠ bx ∧ g ≠ bs) (hW : W.heap.size ≤ bx ∧ W.heap.size ≤ bs) (hx : bx ≠ bs) (h0 : p0 ≠ bx ∧ p0 ≠ bs) (h2 : q ≠ bx ∧ q ≠ bs) :
    JX W g bx bs p0 q c0 c l0 l n m (over (w.setCell ⟨bs, 1, none⟩ (.slice (some ⟨q, 0, none⟩) 256 c)) bx n) := by
  have hz : (over (w.setCell ⟨bs, 1, none⟩ (.slice (some ⟨q, 0, none⟩) 256 c)) bx n).heap.size = w.heap.size := by rw [over_size]; simp [World.setCell]
  have hf : ∀ r, r ≠ bx → r ≠ bs → (over (w.setCell ⟨bs, 1, none⟩ (.slice (some ⟨q, 0, none⟩) 256 c)) bx n).heap[r]? = w.heap[r]? := fun r hr hs => (over_far n hr).trans (Below.heap_setCell _ _ _ _ hs)
  refine ⟨over_sg (h.js.far hg.2 hW.2 _) hg.1 hW.1 n, over_at (h.jx.far hx _) n, (over_far n hx.symm).trans (At.set h.jb 1 _), rowx_same h.r0 (Nat.le_of_eq hz.symm) (hf p0 h0.1 h0.2), rowx_same hq (Nat.le_of_eq hz.symm) (hf q h2.1 h2.2)⟩
theorem JX.only {W w w' : World} {g bx bs p0 p1 c0 c1 : Nat} {l0 l1 : List UInt8} {cur : Sp} {m m' : Int} (h : JX W g bx bs p0 p1 c0 c1 l0 l1 cur m w) (ho : Only g w w') (hs : Sg W g m' w') (hx : bx ≠ g) (hb : bs ≠ g) : JX W g bx bs p0 p1 c0 c1 l0 l1 cur m' w' :=
  ⟨hs, h.jx.only ho hx, at_only h.jb ho hb, h.r0.only ho, h.r1.only ho⟩
end Go.Proofs.Ytcnblgienombeaa.SuperTurnPlain
