/- Lists of free pages in memory. -/
import Derived.Test.YtffbmabhlgfjkaaProg
import Derived.Test.YtffbmabhlgfjkaaBase
import Derived.Test.YtffbmabhlgfjkaaReg
import Derived.Test.YtffbmabhlgfjkaaFreePlain
import Derived.WalkSpells
import Derived.WalkLawsBesides
import Derived.BigQuiet
import Derived.Deep.QuietTactic
import Derived.Lib.Hide
import Derived.Handy
namespace Go.Proofs.Ytffbmabhlgfjkaa.FreeMem
open Go.RowKit Base FreePlain

def fr (l : Fs) : List Value := l.flatMap fun p => [.int .i64 p.1, .int .i64 p.2]
theorem fr_cons (p : Int × Int) (l : Fs) : fr (p :: l) = .int .i64 p.1 :: .int .i64 p.2 :: fr l := rfl
theorem fr_append (a b : Fs) : fr (a ++ b) = fr a ++ fr b := by simp [fr]
theorem fr_len : ∀ l : Fs, (fr l).length = l.length * 2
  | [] => rfl
  | p :: l => by rw [fr_cons]; simp [fr_len l]; omega
theorem fr_one : ∀ l : Fs, ∀ u ∈ fr l, u.oneCell' = true
  | [], _, h => by cases h
  | p :: l, u, h => by
    rw [fr_cons] at h
    rcases List.mem_cons.1 h with rfl | h
    · rfl
    · rcases List.mem_cons.1 h with rfl | h
      · rfl
      · exact fr_one l u h
theorem fr_at : ∀ {l : Fs} {k : Nat} {p : Int × Int}, l[k]? = some p → (fr l)[k * 2]? = some (.int .i64 p.1) ∧ (fr l)[k * 2 + 1]? = some (.int .i64 p.2)
  | [], _, _, h => by simp at h
  | q :: l, 0, p, h => by
    simp at h
    subst h
    exact ⟨rfl, rfl⟩
  | q :: l, k + 1, p, h => by
    obtain ⟨h1, h2⟩ := fr_at (l := l) (k := k) (p := p) (by simpa using h)
    have e : (k + 1) * 2 = k * 2 + 2 := by omega
    rw [fr_cons, e]
    exact ⟨by simpa using h1, by simpa using h2⟩
/-- an item's two cells -/
theorem row_at {w : World} {B : Nat} {A : Option Addr} {l : Fs} (h : Row w B A (fr l)) (k : Nat) (hk : k < l.length) : ∃ ad, A = some ad ∧ ad.block < B ∧ w.cell? (ad.add (k * 2)) = some (.int .i64 (l[k]).1) ∧ w.cell? ⟨(ad.add (k * 2)).block, (ad.add (k * 2)).off + 1, none⟩ = some (.int .i64 (l[k]).2) := by
  obtain ⟨h1, h2⟩ := fr_at (l := l) (k := k) (List.getElem?_eq_getElem hk)
  obtain ⟨ad, e, hb, c1⟩ := h _ _ h1
  obtain ⟨ad', e', _, c2⟩ := h _ _ h2
  rw [e] at e'
  injection e' with e'
  subst e'
  refine ⟨ad, e, hb, c1, ?_⟩
  have : (⟨(ad.add (k * 2)).block, (ad.add (k * 2)).off + 1, none⟩ : Addr) = ad.add (k * 2 + 1) := by
    by_cases q : k * 2 = 0
    · rw [q]; simp [Addr.add]
    · simp [Addr.add, q, Nat.add_assoc]
  rw [this]
  exact c2
theorem info_f : (Try.prog.info? 25).map (fun i => (i.zero, i.size, i.bytes)) = some (some (.agg #[.int .i64 0, .int .i64 0]), 2, 16) := by kernel_rfl
theorem under_f : Try.prog.underlying 22 = some (.slice 25) := Try.underlying22
/-- a list of the call's own -/
def OwnF (w : World) (base : Nat) (A : Option Addr) (c : Nat) (l : Fs) : Prop := w.ownsRow base 25 2 (.slice A l.length c) l.length (fr l)
section
variable {w w' : World} {base B c : Nat} {A : Option Addr} {l : Fs}
theorem OwnF.nil (w : World) (base : Nat) : OwnF w base none 0 [] := World.ownsRow_nil w base _ 2
theorem OwnF.empty (w : World) (hb : base ≤ w.heap.size) : OwnF (w.alloc (.cells #[] 25)) base (some ⟨w.heap.size, 0, none⟩) 0 [] :=
  ⟨rfl, .inr ⟨w.heap.size, 0, #[], rfl, hb, heap_alloc_new w _, Nat.le_refl _, by simp [maxLen], rfl, rfl⟩⟩
theorem OwnF.block (h : OwnF w base A c l) : ∀ k, (Value.slice A l.length c).ownBlock = some k → base ≤ k ∧ k < w.heap.size := World.ownsRow.lt h
theorem OwnF.below (h : OwnF w base A c l) {w0 : World} (hb : Below B w0 w) (hg : w.grownBy w' (Value.slice A l.length c).ownBlock) (hB : B ≤ base) (hs : base ≤ w.heap.size) : Below B w0 w' :=
  hb.grown hg (Nat.le_trans hB hs) fun k hk => Nat.le_trans hB (h.block k hk).1
theorem OwnF.later (h : OwnF w base A c l) (hb : Below w.heap.size w w') : OwnF w' base A c l :=
  World.ownsRow.kept h (row := none) ⟨hb.os, hb.tape, hb.output, hb.size, fun k hk _ => hb.block k hk⟩ (by
    cases A with
    | none => exact .inl rfl
    | some a => exact .inr (by simp [Value.ownBlock]))
theorem OwnF.cap (h : OwnF w base A c l) : l.length ≤ c ∧ c ≤ maxLen := by
  rcases h.2 with ⟨h1, h2⟩ | ⟨g, cap, cur, h1, _, _, h2, h3, _⟩
  · injection h1 with _ _ h3; subst h3; exact ⟨by omega, by simp [maxLen]⟩
  · injection h1 with _ _ h4; subst h4; exact ⟨h2, h3⟩
theorem OwnF.row (h : OwnF w base A c l) : Row w w.heap.size A (fr l) := fun k v hv => by
  have hk : k < (fr l).length := by
    rcases Nat.lt_or_ge k (fr l).length with h1 | h1
    · exact h1
    · rw [List.getElem?_eq_none h1] at hv; cases hv
  rw [fr_len] at hk
  obtain ⟨g, cap, e1, _, hlt⟩ := World.ownsRow.form h (by omega)
  have hA : A = some ⟨g, 0, none⟩ := by injection e1
  subst hA
  exact ⟨_, rfl, hlt, World.ownsRow.cells h (g := g) rfl k v hv⟩
/-- append(own, xs...) -/
theorem run_append_f (h : OwnF w base A c l) {A2 : Option Addr} {c2 n m k : Nat} {news : Fs} (hn : n = l.length) (hm : m = news.length) (hk : n + m = k) (hr : Row w B A2 (fr news)) (hl : k ≤ 1000000) (hbase : base ≤ w.heap.size) :
    ∃ A' c' w', (Builtin.append_ #[22, 22] 22 #[.slice A n c, .slice A2 m c2]).run Try.prog w = .ok (.slice A' k c') w' ∧ OwnF w' base A' c' (l ++ news) ∧ w.grownBy w' (Value.slice A n c).ownBlock := by
  subst hn hm hk
  obtain ⟨i, i1, i2, i3, i4⟩ := info_parts info_f
  cases A2 with
  | none =>
    have h0 : news = [] := by
      cases news with
      | nil => rfl
      | cons x l => obtain ⟨ad, e, _⟩ := hr.get 0 (by rw [fr_len]; simp); cases e
    subst h0
    refine ⟨A, c, w, ?_, by simpa using h, World.grownBy.refl w _⟩
    rcases h.2 with ⟨h1, h2⟩ | ⟨g, cap, cur, h1, _, _, hnc, _⟩
    · injection h1 with h3 h4 h5
      subst h3 h5
      obtain rfl : l = [] := List.eq_nil_of_length_eq_zero h2
      simp [Builtin.append_, run_underlying under_f, sizeOf, typeInfo, i1, Builtin.lenOf, Builtin.firstCells]
    · injection h1 with h3 h4 h5
      subst h3 h5
      simp [Builtin.append_, run_underlying under_f, sizeOf, typeInfo, i1, Builtin.lenOf, Builtin.firstCells, hnc, storeCells]
  | some ad =>
    have hc : ∀ j u, (fr news)[j]? = some u → w.cell? (ad.add j) = some u := fun j u hu => by
      obtain ⟨ad', e, _, h⟩ := hr j u hu
      injection e with e
      subst e
      exact h
    obtain ⟨v', w', hrun, h2, h3, _, _⟩ := run_append_own_at (P := Try.prog) w base 22 22 25 i _ 2 16 under_f i1 i2 i3 i4 (by simp [Value.cells]) (by omega) _ _ (fr l) h ad news.length c2 (fr news) (fr_len _) hc (fr_one _) (by simp only [maxLen]; omega) (by omega) hbase
    have hform : ∃ A' c', v' = .slice A' (l.length + news.length) c' := by
      rcases h2.2 with ⟨h4, h5⟩ | ⟨g, cap, cur, h4, _⟩
      · exact ⟨none, 0, by rw [h4, h5]⟩
      · exact ⟨_, _, h4⟩
    obtain ⟨A', c', rfl⟩ := hform
    exact ⟨A', c', w', hrun, by unfold OwnF; rw [List.length_append, fr_append]; exact h2, h3⟩
end
/-- a new row of one item -/
theorem row_item (w : World) (p : Int × Int) : Row (w.alloc (.cells #[.int .i64 p.1, .int .i64 p.2] 25)) (w.alloc (.cells #[.int .i64 p.1, .int .i64 p.2] 25)).heap.size (some ⟨w.heap.size, 0, none⟩) (fr [p]) := (row_of_block (heap_alloc_new w (.cells #[.int .i64 p.1, .int .i64 p.2] 25))).more (by simp)
theorem al (w : World) (o : Obj) : Below w.heap.size w (w.alloc o) := (Below.refl _ _).alloc (Nat.le_refl _) _
theorem wpList_append_run {P : Program} {w : World} {ops : Array Oper} {rest : List Oper} {o : Oper} {a : Act} {Q : Exit → Act → World → Prop} (hgd : o.guard = none) (s x : Operand) (t u : TypeId)
    (hop : o.op = Op.call { callee := Callee.builtin Builtin.append, args := #[s, x], argTypes := #[t, u] }) {vs vx v : Value} {w' : World} (hs : a.eval s = vs) (hx : a.eval x = vx)
    (hrun : (Builtin.append_ #[t, u] o.type #[vs, vx]).run P w = .ok v w') (h : wpList P ops Q rest (a.put o.dst v) w') : wpList P ops Q (o :: rest) a w := by
  refine wpList_plain hgd fun K hK => ?_
  unfold Oper.wp
  simp [execOp, hop, resolve, invoke, builtin, hs, hx, hrun, Result.andThen]
  exact hK _ _ h
end Go.Proofs.Ytffbmabhlgfjkaa.FreeMem
