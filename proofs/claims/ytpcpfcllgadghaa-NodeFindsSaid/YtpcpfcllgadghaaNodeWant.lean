/- A node that is made field by field: two lists of its own beside its block. -/
import Derived.Test.YtpcpfcllgadghaaNodeStore
import Derived.Test.YtpcpfcllgadghaaNodeTwo
import Derived.Test.YtpcpfcllgadghaaNodeJoin
namespace Go.Proofs.Ytpcpfcllgadghaa.NodeWant
open Go.RowKit Base NodePlain NodeRead NodeSlice NodeCheck NodeBox NodeTwo NodeStore

theorem wpList_append_run {P : Program} {w : World} {ops : Array Oper} {rest : List Oper} {o : Oper} {a : Act} {Q : Exit → Act → World → Prop} (hgd : o.guard = none) (s x : Operand) (t u : TypeId)
    (hop : o.op = Op.call { callee := Callee.builtin Builtin.append, args := #[s, x], argTypes := #[t, u] }) {vs vx v : Value} {w' : World} (hs : a.eval s = vs) (hx : a.eval x = vx)
    (hrun : (Builtin.append_ #[t, u] o.type #[vs, vx]).run P w = .ok v w') (h : wpList P ops Q rest (a.put o.dst v) w') : wpList P ops Q (o :: rest) a w := by
  refine wpList_plain hgd fun K hK => ?_
  unfold Oper.wp
  simp [execOp, hop, resolve, invoke, builtin, hs, hx, hrun, Result.andThen]
  exact hK _ _ h
theorem run_append_loc {P : Program} {w : World} {base : Nat} {t e : TypeId} {bytes : Nat} (ty : TypeId) (hE : Elem P t e bytes) {A A2 : Option Addr} {c c2 B : Nat} {xs news : List Value} (hown : Own w base e A c xs)
    (hr : Row w B A2 news) (h1 : ∀ u ∈ news, u.oneCell' = true) (h63 : xs.length + news.length ≤ maxLen) (hbytes : (xs.length + news.length) * bytes ≤ 140737488355328) (hbase : base ≤ w.heap.size) :
    ∃ A' c' w', (Builtin.append_ #[t, t] ty #[.slice A xs.length c, .slice A2 news.length c2]).run P w = .ok (.slice A' (xs.length + news.length) c') w' ∧ Own w' base e A' c' (xs ++ news) ∧ w.grownBy w' (Value.slice A xs.length c).ownBlock ∧ ∀ a, A' = some a → (∃ a', A = some a' ∧ a.block = a'.block) ∨ w.heap.size ≤ a.block := by
  cases A2 with
  | none =>
    have hn : news = [] := by
      cases news with
      | nil => rfl
      | cons x l => obtain ⟨ad, e, _⟩ := hr.get 0 (by simp); cases e
    subst hn
    obtain ⟨ht, i, z, hi, hz, hs, hby, hzs⟩ := hE
    refine ⟨A, c, w, ?_, by simpa using hown, World.grownBy.refl w _, fun a e => .inl ⟨a, e, rfl⟩⟩
    rcases hown.2 with ⟨h1, h2⟩ | ⟨g, cap, cur, h1, _, _, hnc, _⟩
    · injection h1 with h3 h4 h5
      subst h3 h5
      obtain rfl : xs = [] := List.eq_nil_of_length_eq_zero h2
      simp [Builtin.append_, run_underlying ht, sizeOf, typeInfo, hi, Builtin.lenOf, Builtin.firstCells]
    · injection h1 with h3 h4 h5
      subst h3 h5
      simp [Builtin.append_, run_underlying ht, sizeOf, typeInfo, hi, Builtin.lenOf, Builtin.firstCells, hnc, storeCells]
  | some ad =>
    obtain ⟨ht, i, z, hi, hz, hs, hby, hzs⟩ := hE
    have hc : ∀ j u, news[j]? = some u → w.cell? (ad.add j) = some u := fun j u hu => by
      obtain ⟨ad', e, _, h⟩ := hr j u hu
      injection e with e
      subst e
      exact h
    obtain ⟨v', w', hrun, h2, h3, _, h5⟩ := run_append_own_at (P := P) w base t ty e i z 1 bytes ht hi hz hs hby hzs (by omega) _ _ xs hown ad news.length c2 news (by omega) hc h1 h63 hbytes hbase
    have hform : ∃ A' c', v' = .slice A' (xs.length + news.length) c' := by
      rcases h2.2 with ⟨h4, h5⟩ | ⟨g, cap, cur, h4, _⟩
      · exact ⟨none, 0, by rw [h4, h5]⟩
      · exact ⟨_, _, h4⟩
    obtain ⟨A', c', rfl⟩ := hform
    refine ⟨A', c', w', hrun, by unfold Own; rw [List.length_append]; exact h2, h3, ?_⟩
    rintro a rfl
    rcases h5 with h5 | h5
    · cases hA : A with
      | none => rw [hA] at h5; cases h5
      | some a' => rw [hA] at h5; left; refine ⟨a', rfl, ?_⟩; simpa [Value.ownBlock] using h5
    · right
      have : a.block = w.heap.size := by simpa [Value.ownBlock] using h5
      omega
/-- a block of four at gw, and two lists of the call's own behind it; what is below gw is as in W1 -/
structure Wn (gw : Nat) (us : Array Value) (ek ex : TypeId) (K : Option Addr) (kc : Nat) (ks : List Value) (X : Option Addr) (xc : Nat) (xs : List Value) (W1 w : World) : Prop where
  b : Below gw W1 w
  at' : At w gw 25 us
  k : Own w (gw + 1) ek K kc ks
  x : Own w (gw + 1) ex X xc xs
  ap : Apart K X
section
variable {gw : Nat} {us : Array Value} {ek ex : TypeId} {K X : Option Addr} {kc xc : Nat} {ks xs : List Value} {W1 w w' : World}
theorem Wn.symm (h : Wn gw us ek ex K kc ks X xc xs W1 w) : Wn gw us ex ek X xc xs K kc ks W1 w := ⟨h.b, h.at', h.x, h.k, fun a b e f q => h.ap b a f e q.symm⟩
theorem Wn.below (h : Wn gw us ek ex K kc ks X xc xs W1 w) (hb : Below w.heap.size w w') : Wn gw us ek ex K kc ks X xc xs W1 w' :=
  ⟨bstep h.b (Nat.le_of_lt (heap_lt h.at')) hb, h.at'.below hb, h.k.later hb, h.x.later hb, h.ap⟩
theorem own_set {base : Nat} {e : TypeId} {A : Option Addr} {c : Nat} {vs : List Value} (h : Own w (base + 1) e A c vs) (i : Nat) (v : Value) : Own (w.setCell ⟨base, i, none⟩ v) (base + 1) e A c vs :=
  World.ownsRow.kept h (row := some base) ⟨rfl, rfl, rfl, by simp, fun k _ hne => Below.heap_setCell w ⟨base, i, none⟩ v k (fun q => hne (by rw [q]))⟩ (by
    cases hA : A with
    | none => exact .inl rfl
    | some a =>
      right
      have := (h.block a.block (by rw [hA]; rfl)).1
      simp only [Value.ownBlock, ne_eq, Option.some.injEq]
      omega)
theorem Wn.set (h : Wn gw us ek ex K kc ks X xc xs W1 w) (i : Nat) (v : Value) : Wn gw (us.setIfInBounds i v) ek ex K kc ks X xc xs W1 (w.setCell ⟨gw, i, none⟩ v) :=
  ⟨h.b.setCell (by exact Nat.le_refl _) v, h.at'.set i v, own_set h.k i v, own_set h.x i v, h.ap⟩
theorem Wn.new (W1 : World) (us : Array Value) (ek ex : TypeId) : Wn W1.heap.size us ek ex none 0 [] none 0 [] W1 (W1.alloc (.cells us 25)) :=
  ⟨al _ _, at_new _ _ _, Own.nil _ _ _, Own.nil _ _ _, fun _ _ e => by cases e⟩
theorem Wn.app (h : Wn gw us ek ex K kc ks X xc xs W1 w) {t : TypeId} {bytes : Nat} (ty : TypeId) (hE : Elem Try.prog t ek bytes) {A2 : Option Addr} {c2 B n m k : Nat} {news : List Value} (hn : n = ks.length) (hm : m = news.length) (hk : n + m = k)
    (hr : Row w B A2 news) (h1 : ∀ u ∈ news, u.oneCell' = true) (h63 : k ≤ maxLen) (hbytes : k * bytes ≤ 140737488355328) :
    ∃ K' kc' w', (Builtin.append_ #[t, t] ty #[.slice K n kc, .slice A2 m c2]).run Try.prog w = .ok (.slice K' k kc') w' ∧ Wn gw us ek ex K' kc' (ks ++ news) X xc xs W1 w' := by
  subst hn hm hk
  have hlt := heap_lt h.at'
  obtain ⟨K', kc', w', hrun, ho, hg, hloc⟩ := run_append_loc (P := Try.prog) ty hE (c2 := c2) h.k hr h1 h63 hbytes hlt
  have hge : ∀ a, K = some a → gw + 1 ≤ a.block := fun a e => (h.k.block a.block (by rw [e]; rfl)).1
  refine ⟨K', kc', w', hrun, h.k.below h.b hg (Nat.le_succ _) hlt, ?_, ho, ?_, ?_⟩
  · refine (hg.block gw hlt ?_).trans h.at'
    cases hA : K with
    | none => simp [Value.ownBlock]
    | some a => have := hge a hA; simp only [Value.ownBlock, ne_eq, Option.some.injEq]; omega
  · refine World.ownsRow.kept h.x hg ?_
    cases hB : X with
    | none => exact .inl rfl
    | some b =>
      right
      cases hA : K with
      | none => simp [Value.ownBlock]
      | some a => simp only [Value.ownBlock, ne_eq, Option.some.injEq]; exact fun q => h.ap a b hA hB q.symm
  · intro a b e f q
    rcases hloc a e with ⟨a', ha, hq⟩ | hq
    · exact h.ap a' b ha f (by rw [← hq, q])
    · have := (h.x.block b.block (by rw [f]; rfl)).2; omega
end
/-- a law's begin: two nodes in boxes -/
def BegN (W : World) (na : Nd) (ha : Hd) (nb : Nd) (hb : Hd) (w' : World) : Prop := Bx w' W.heap.size na ha ∧ Lay w' na ha ∧ Below W.heap.size W w' ∧ Bx w' (W.heap.size + 1) nb hb ∧ Lay w' nb hb
theorem BegN.below {W w w' : World} {na nb : Nd} {ha hb : Hd} (s : BegN W na ha nb hb w) (h : Below w.heap.size w w') : BegN W na ha nb hb w' :=
  ⟨s.1.below h, s.2.1.below h, bstep s.2.2.1 s.2.2.1.size h, s.2.2.2.1.below h, s.2.2.2.2.below h⟩
theorem begN {W : World} {na nb : Nd} {ha hb : Hd} (la : Lay W na ha) (lb : Lay W nb hb) : ∀ w', Below (box (box W na ha) nb hb).heap.size (box (box W na ha) nb hb) w' → BegN W na ha nb hb w' := by
  have b1 := box_below W na ha
  have b2 := box_below (box W na ha) nb hb
  have s1 : (box W na ha).heap.size = W.heap.size + 1 := by simp
  have x2 := bx_new (box W na ha) nb hb
  rw [s1] at x2
  have hs : BegN W na ha nb hb (box (box W na ha) nb hb) := ⟨(bx_new W na ha).below b2, (la.below b1).below b2, Below.step b1 b2, x2, (lb.below b1).below b2⟩
  exact fun w' h => hs.below h
end Go.Proofs.Ytpcpfcllgadghaa.NodeWant
