/- Two lists of texts that grow by one item each, in any order, and are stored into a node's block. -/
import Derived.Test.YtpcpfcllgadghaaNodeWant
import Derived.Test.YtpcpfcllgadghaaInv4
namespace Go.Proofs.Ytpcpfcllgadghaa.NodeDuo
open Go.RowKit Base NodePlain NodeRead NodeSlice NodeCheck NodeBox NodeTwo NodeStore NodeWant
open _root_.Go.Proofs.Ytpcpfcllgadghaa.Inv

theorem _root_.Go.Proofs.Ytpcpfcllgadghaa.NodeWant.Wn.appg {gw : Nat} {us : Array Value} {ek ex : TypeId} {K X : Option Addr} {kc xc : Nat} {ks xs : List Value} {W1 w : World} (h : Wn gw us ek ex K kc ks X xc xs W1 w) {t : TypeId} {bytes : Nat} (ty : TypeId) (hE : Elem Try.prog t ek bytes) {A2 : Option Addr} {c2 B n m k : Nat} {news : List Value} (hn : n = ks.length) (hm : m = news.length) (hk : n + m = k)
    (hr : Row w B A2 news) (h1 : ∀ u ∈ news, u.oneCell' = true) (h63 : k ≤ maxLen) (hbytes : k * bytes ≤ 140737488355328) :
    ∃ K' kc' w', (Builtin.append_ #[t, t] ty #[.slice K n kc, .slice A2 m c2]).run Try.prog w = .ok (.slice K' k kc') w' ∧ Wn gw us ek ex K' kc' (ks ++ news) X xc xs W1 w' ∧ w.grownBy w' (Value.slice K n kc).ownBlock := by
  subst hn hm hk
  have hlt := heap_lt h.at'
  obtain ⟨K', kc', w', hrun, ho, hg, hloc⟩ := run_append_loc (P := Try.prog) ty hE (c2 := c2) h.k hr h1 h63 hbytes hlt
  have hge : ∀ a, K = some a → gw + 1 ≤ a.block := fun a e => (h.k.block a.block (by rw [e]; rfl)).1
  refine ⟨K', kc', w', hrun, ⟨h.k.below h.b hg (Nat.le_succ _) hlt, ?_, ho, ?_, ?_⟩, hg⟩
  · refine (hg.block gw hlt ?_).trans h.at'
    cases hA : K with
    | none => simp [Value.ownBlock]
    | some a => have := hge a hA; simp only [Value.ownBlock, ne_eq, Option.some.injEq]; omega
  · refine World.ownsRow.kept h.x hg ?_
    cases hB : X with
    | none => exact .inl rfl
    | some b =>
      right
      cases hA : K with
      | none => simp [Value.ownBlock]
      | some a => simp only [Value.ownBlock, ne_eq, Option.some.injEq]; exact fun q => h.ap a b hA hB q.symm
  · intro a b e f q
    rcases hloc a e with ⟨a', ha, hq⟩ | hq
    · exact h.ap a' b ha f (by rw [← hq, q])
    · have := (h.x.block b.block (by rw [f]; rfl)).2; omega
/-- what is old stays, but for the block gw and the rows K and X -/
def Rd (gw : Nat) (K X : Option Addr) (w w' : World) : Prop := w.heap.size ≤ w'.heap.size ∧ ∀ b, b < w.heap.size → b ≠ gw → (∀ a, K = some a → a.block ≠ b) → (∀ a, X = some a → a.block ≠ b) → w'.heap[b]? = w.heap[b]?
theorem rd_below {gw : Nat} {K X : Option Addr} {w w' : World} (h : Below w.heap.size w w') : Rd gw K X w w' := ⟨h.size, fun b hb _ _ _ => h.block b hb⟩
theorem Rd.swap {gw : Nat} {K X : Option Addr} {w w' : World} (h : Rd gw K X w w') : Rd gw X K w w' := ⟨h.1, fun b hb h1 h2 h3 => h.2 b hb h1 h3 h2⟩
/-- a new row of one item -/
def Bs (gw : Nat) (K X : Option Addr) (u : Value) (v : Value) (w : World) : Prop := ∃ g, v = .slice (some ⟨g, 0, none⟩) 1 1 ∧ At w g 9 #[u] ∧ g ≠ gw ∧ (∀ a, K = some a → a.block ≠ g) ∧ ∀ a, X = some a → a.block ≠ g
theorem Bs.last {gw : Nat} {K X : Option Addr} {u v : Value} {w w' : World} (h : Bs gw K X u v w) (hb : Rd gw K X w w') : Bs gw K X u v w' := by
  obtain ⟨g, h1, h2, h3, h4, h5⟩ := h
  exact ⟨g, h1, (hb.2 g (heap_lt h2) h3 h4 h5).trans h2, h3, h4, h5⟩
structure Side (K : Option Addr) (kc : Nat) (ks : List Value) (u : Value) (dn : Bool) (sl : Value) (K' : Option Addr) (kc' : Nat) (ks' : List Value) : Prop where
  yes : dn = true → sl = .slice K' (ks.length + 1) kc' ∧ ks' = ks ++ [u]
  no : dn = false → K' = K ∧ kc' = kc ∧ ks' = ks
/-- two chains (load, append, store): a1, s1 and a2, s2 the operations, d1, d2 the slots of the appends, f1, f2 the fields -/
def Duo (gw : Nat) (W1 : World) (a1 s1 a2 s2 : Nat) (d1 d2 : Tmp) (f1 f2 : Nat) (K : Option Addr) (kc : Nat) (ks : List Value) (u : Value) (X : Option Addr) (xc : Nat) (xs : List Value) (v : Value) (sz : Nat) (q : Nat → Bool) (a : Act) (w : World) : Prop :=
  ∃ us K' kc' ks' X' xc' xs', Wn gw us 9 9 K' kc' ks' X' xc' xs' W1 w ∧ Side K kc ks u (q a1) (a.tmps.getD d1 undef) K' kc' ks' ∧ Side X xc xs v (q a2) (a.tmps.getD d2 undef) X' xc' xs' ∧
    us[f1]? = some (bif q s1 then a.tmps.getD d1 undef else .slice K ks.length kc) ∧ us[f2]? = some (bif q s2 then a.tmps.getD d2 undef else .slice X xs.length xc) ∧ us.size = 4 ∧ us[0]? = some (.bool true) ∧ us[3]? = some (.slice none 0 0) ∧
    sz ≤ w.heap.size ∧ (∀ a, K = some a → a.block < sz) ∧ (∀ a, X = some a → a.block < sz) ∧ gw < sz
section
variable {gw : Nat} {W1 : World} {a1 s1 a2 s2 : Nat} {d1 d2 : Tmp} {f1 f2 : Nat} {K : Option Addr} {kc : Nat} {ks : List Value} {u : Value} {X : Option Addr} {xc : Nat} {xs : List Value} {v : Value} {sz : Nat} {q : Nat → Bool} {a : Act} {w w' : World}
theorem Duo.swap (h : Duo gw W1 a1 s1 a2 s2 d1 d2 f1 f2 K kc ks u X xc xs v sz q a w) : Duo gw W1 a2 s2 a1 s1 d2 d1 f2 f1 X xc xs v K kc ks u sz q a w := by
  obtain ⟨us, K', kc', ks', X', xc', xs', h1, h2, h3, h4, h5, h6, h7, h8, h9, h10, h11, h12⟩ := h
  exact ⟨us, X', xc', xs', K', kc', ks', h1.symm, h3, h2, h5, h4, h6, h7, h8, h9, h11, h10, h12⟩
theorem upd_no {i j : Nat} (h : Nat.beq j i = false) : Inv4.upd q i j = q j := by unfold Inv4.upd; rw [h]; rfl
theorem upd_yes (i : Nat) : Inv4.upd q i i = true := by unfold Inv4.upd; rw [Nat.beq_refl]; rfl
theorem Duo.quiet (h : Duo gw W1 a1 s1 a2 s2 d1 d2 f1 f2 K kc ks u X xc xs v sz q a w) (b : Below w.heap.size w w') {i d : Nat} {v' : Value} (i1 : Nat.beq a1 i = false) (i2 : Nat.beq s1 i = false) (i3 : Nat.beq a2 i = false) (i4 : Nat.beq s2 i = false) (hd1 : d ≠ d1) (hd2 : d ≠ d2) :
    Duo gw W1 a1 s1 a2 s2 d1 d2 f1 f2 K kc ks u X xc xs v sz (Inv4.upd q i) (a.put (some d) v') w' := by
  obtain ⟨us, K', kc', ks', X', xc', xs', h1, h2, h3, h4, h5, h6, h7, h8, h9, h10, h11, h12⟩ := h
  refine ⟨us, K', kc', ks', X', xc', xs', h1.below b, ?_, ?_, ?_, ?_, h6, h7, h8, Nat.le_trans h9 b.size, h10, h11, h12⟩
  · rw [upd_no i1, slot_put_ne hd1]; exact h2
  · rw [upd_no i3, slot_put_ne hd2]; exact h3
  · rw [upd_no i2, slot_put_ne hd1]; exact h4
  · rw [upd_no i4, slot_put_ne hd2]; exact h5
theorem Duo.below (h : Duo gw W1 a1 s1 a2 s2 d1 d2 f1 f2 K kc ks u X xc xs v sz q a w) : Below gw W1 w := by
  obtain ⟨us, K', kc', ks', X', xc', xs', h1, _⟩ := h
  exact h1.b
theorem Duo.ld (h : Duo gw W1 a1 s1 a2 s2 d1 d2 f1 f2 K kc ks u X xc xs v sz q a w) (hs : q s1 = false) : w.cell? ⟨gw, f1, none⟩ = some (.slice K ks.length kc) := by
  obtain ⟨us, K', kc', ks', X', xc', xs', h1, h2, h3, h4, _⟩ := h
  rw [h1.at'.cell, h4, hs]
  rfl
theorem Duo.new (h : Duo gw W1 a1 s1 a2 s2 d1 d2 f1 f2 K kc ks u X xc xs v sz q a w) (x : Value) : Bs gw K X x (.slice (some ⟨w.heap.size, 0, none⟩) 1 1) (w.alloc (.cells #[x] 9)) := by
  obtain ⟨us, K', kc', ks', X', xc', xs', h1, h2, h3, h4, h5, h6, h7, h8, h9, h10, h11, h12⟩ := h
  exact ⟨_, rfl, at_new _ _ _, by omega, fun a e => by have := h10 a e; omega, fun a e => by have := h11 a e; omega⟩
theorem Duo.app (h : Duo gw W1 a1 s1 a2 s2 d1 d2 f1 f2 K kc ks u X xc xs v sz q a w) (hq : q a1 = false) (hs : q s1 = false) (hsz : d1 < a.tmps.size) (h12 : d1 ≠ d2) (i1 : Nat.beq s1 a1 = false) (i2 : Nat.beq a2 a1 = false) (i3 : Nat.beq s2 a1 = false)
    {sl : Value} (hsl : Bs gw K X u sl w) (h1c : u.oneCell' = true) (k : Nat) (hk : k = ks.length) (hl : k ≤ 100000) :
    ∃ g K2 kc2 w', sl = .slice (some ⟨g, 0, none⟩) 1 1 ∧ (Builtin.append_ #[22, 22] 22 #[.slice K k kc, .slice (some ⟨g, 0, none⟩) 1 1]).run Try.prog w = .ok (.slice K2 (k + 1) kc2) w' ∧ Rd gw K X w w' ∧
      Duo gw W1 a1 s1 a2 s2 d1 d2 f1 f2 K kc ks u X xc xs v sz (Inv4.upd q a1) (a.put (some d1) (.slice K2 (k + 1) kc2)) w' := by
  subst hk
  obtain ⟨us, K', kc', ks', X', xc', xs', h1, h2, h3, h4, h5, h6, h7, h8, h9, h10, h11, h12'⟩ := h
  obtain ⟨rfl, rfl, rfl⟩ := h2.no hq
  obtain ⟨g, rfl, hat, hg1, hg2, hg3⟩ := hsl
  have hr : Row w w.heap.size (some ⟨g, 0, none⟩) [u] := (row_of_block hat).more (heap_lt hat)
  obtain ⟨K2, kc2, w', hrun, hw, hgr⟩ := h1.appg 22 el_strs (c2 := 1) (n := ks'.length) (m := 1) (k := ks'.length + 1) rfl rfl rfl hr (by intro x hx; rw [List.mem_singleton.1 hx]; exact h1c) (by simp only [maxLen]; omega) (by omega)
  refine ⟨g, K2, kc2, w', rfl, hrun, ⟨hgr.size, fun b hb _ hK _ => hgr.block b hb ?_⟩, us, K2, kc2, ks' ++ [u], X', xc', xs', hw, ?_, ?_, ?_, ?_, h6, h7, h8, Nat.le_trans h9 hgr.size, h10, h11, h12'⟩
  · cases hA : K' with
    | none => simp [Value.ownBlock]
    | some x => simp only [Value.ownBlock, ne_eq, Option.some.injEq]; exact fun q => hK x hA q.symm
  · rw [upd_yes, slot_put hsz]
    exact ⟨fun _ => ⟨rfl, rfl⟩, fun q => by cases q⟩
  · rw [upd_no i2, slot_put_ne h12]; exact h3
  · rw [upd_no i1, hs]
    rw [hs] at h4
    exact h4
  · rw [upd_no i3, slot_put_ne h12]; exact h5
theorem Duo.val (h : Duo gw W1 a1 s1 a2 s2 d1 d2 f1 f2 K kc ks u X xc xs v sz q a w) (hq : q a1 = true) : ∃ K2 kc2, a.tmps.getD d1 undef = .slice K2 (ks.length + 1) kc2 := by
  obtain ⟨us, K', kc', ks', X', xc', xs', h1, h2, _⟩ := h
  exact ⟨_, _, (h2.yes hq).1⟩
theorem Duo.cell (h : Duo gw W1 a1 s1 a2 s2 d1 d2 f1 f2 K kc ks u X xc xs v sz q a w) : (∃ x, w.cell? ⟨gw, f1, none⟩ = some x) ∧ w.frozen? ⟨gw, f1, none⟩ = false := by
  obtain ⟨us, K', kc', ks', X', xc', xs', h1, h2, h3, h4, _⟩ := h
  exact ⟨⟨_, (h1.at'.cell f1).trans h4⟩, h1.at'.frozen f1⟩
theorem Duo.st (h : Duo gw W1 a1 s1 a2 s2 d1 d2 f1 f2 K kc ks u X xc xs v sz q a w) (i1 : Nat.beq a1 s1 = false) (i2 : Nat.beq a2 s1 = false) (i3 : Nat.beq s2 s1 = false) (hf : f1 ≠ f2) (hf0 : f1 ≠ 0) (hf3 : f1 ≠ 3) (hf4 : f1 < 4) {x : Value} (hx : a.tmps.getD d1 undef = x) (v' : Value) :
    Rd gw K X w (w.setCell ⟨gw, f1, none⟩ x) ∧ Duo gw W1 a1 s1 a2 s2 d1 d2 f1 f2 K kc ks u X xc xs v sz (Inv4.upd q s1) (a.put none v') (w.setCell ⟨gw, f1, none⟩ x) := by
  obtain ⟨us, K', kc', ks', X', xc', xs', h1, h2, h3, h4, h5, h6, h7, h8, h9, h10, h11, h12⟩ := h
  have hz : (w.setCell ⟨gw, f1, none⟩ x).heap.size = w.heap.size := by simp
  refine ⟨⟨Nat.le_of_eq hz.symm, fun b _ hb _ _ => Below.heap_setCell w ⟨gw, f1, none⟩ x b hb⟩, us.setIfInBounds f1 x, K', kc', ks', X', xc', xs', h1.set f1 x, ?_, ?_, ?_, ?_, by simpa using h6, ?_, ?_, by rw [hz]; exact h9, h10, h11, h12⟩
  · rw [upd_no i1]; exact h2
  · rw [upd_no i2]; exact h3
  · rw [upd_yes, Array.getElem?_setIfInBounds_self_of_lt (by omega)]
    show some x = some (a.tmps.getD d1 undef)
    rw [hx]
  · rw [upd_no i3, Array.getElem?_setIfInBounds_ne hf]; exact h5
  · rw [Array.getElem?_setIfInBounds_ne hf0]; exact h7
  · rw [Array.getElem?_setIfInBounds_ne hf3]; exact h8
theorem Duo.fin (h : Duo gw W1 a1 s1 a2 s2 d1 d2 1 2 K kc ks u X xc xs v sz q a w) (q1 : q a1 = true) (q2 : q s1 = true) (q3 : q a2 = true) (q4 : q s2 = true) :
    ∃ K' kc' X' xc', Wn gw #[.bool true, .slice K' (ks.length + 1) kc', .slice X' (xs.length + 1) xc', .slice none 0 0] 9 9 K' kc' (ks ++ [u]) X' xc' (xs ++ [v]) W1 w := by
  obtain ⟨us, K', kc', ks', X', xc', xs', h1, h2, h3, h4, h5, h6, h7, h8, _⟩ := h
  obtain ⟨e1, rfl⟩ := h2.yes q1
  obtain ⟨e2, rfl⟩ := h3.yes q3
  rw [q2, e1] at h4
  rw [q4, e2] at h5
  refine ⟨K', kc', X', xc', ?_⟩
  have e : us = #[.bool true, .slice K' (ks.length + 1) kc', .slice X' (xs.length + 1) xc', .slice none 0 0] := by
    obtain ⟨l⟩ := us
    match l, h6 with
    | [b0, b1, b2, b3], _ =>
      simp at h7 h4 h5 h8
      rw [h7, h4, h5, h8]
  rw [← e]
  exact h1
theorem Duo.start (h : Wn gw #[.bool true, .slice K ks.length kc, .slice X xs.length xc, .slice none 0 0] 9 9 K kc ks X xc xs W1 w) (a : Act) : Duo gw W1 a1 s1 a2 s2 d1 d2 1 2 K kc ks u X xc xs v w.heap.size (fun _ => false) a w :=
  ⟨_, _, _, _, _, _, _, h, ⟨fun q => (by cases q), fun _ => ⟨rfl, rfl, rfl⟩⟩, ⟨fun q => (by cases q), fun _ => ⟨rfl, rfl, rfl⟩⟩, rfl, rfl, rfl, rfl, rfl, Nat.le_refl _,
    fun a e => (h.k.block a.block (by rw [e]; rfl)).2, fun a e => (h.x.block a.block (by rw [e]; rfl)).2, heap_lt h.at'⟩
end
end Go.Proofs.Ytpcpfcllgadghaa.NodeDuo
