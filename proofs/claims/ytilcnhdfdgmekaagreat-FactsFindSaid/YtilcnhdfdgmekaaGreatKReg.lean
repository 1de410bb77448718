/- Base, Reg. -/
import Derived.Deep.AppendLies
import Derived.Deep.Draws
import Derived.Laws.BytesArg
import Derived.Laws.IdiomStrings
import Derived.Laws.OwnMore
import Derived.Lib.Hide
import Derived.Maps.AppendAt
import Derived.OneCell
import Derived.RegionTactic
import Derived.WalkKit
import Derived.WalkSpells
namespace Go.Proofs.YtilcnhdfdgmekaaGreat.Base
open Go.RowKit

theorem blk_add (a : Addr) (n : Nat) : (a.add n).block = a.block := by unfold Addr.add; split <;> rfl

/-- the cells from the slice's head A on are vs, all of them below block B -/
def Row (w : World) (B : Nat) (A : Option Addr) (vs : List Value) : Prop :=
  ∀ k v, vs[k]? = some v → ∃ ad, A = some ad ∧ ad.block < B ∧ w.cell? (ad.add k) = some v

section
variable {w w' : World} {B B' : Nat} {A : Option Addr} {vs : List Value}
theorem Row.nil : Row w B A [] := fun k v h => by simp at h
theorem Row.get (h : Row w B A vs) (k : Nat) (hk : k < vs.length) : ∃ ad, A = some ad ∧ ad.block < B ∧ w.cell? (ad.add k) = some vs[k] :=
  h k _ (List.getElem?_eq_getElem hk)
theorem Row.keep (h : Row w B A vs) (hk : ∀ p : Addr, p.block < B → w'.cell? p = w.cell? p) : Row w' B A vs := fun k v hv => by
  obtain ⟨ad, e, hb, hc⟩ := h k v hv
  exact ⟨ad, e, hb, (hk _ (by rw [blk_add]; exact hb)).trans hc⟩
theorem Row.more (h : Row w B A vs) (hB : B ≤ B') : Row w B' A vs := fun k v hv => by
  obtain ⟨ad, e, hb, hc⟩ := h k v hv
  exact ⟨ad, e, by omega, hc⟩
theorem Row.below (h : Row w B A vs) (hb : Below B w w') : Row w' B A vs := h.keep fun _ hp => hb.cell hp
theorem Row.belowSize (h : Row w w.heap.size A vs) (hb : Below w.heap.size w w') : Row w' w'.heap.size A vs := (h.below hb).more hb.size
theorem Row.drewN (h : Row w B A vs) (n : Nat) : Row (w.drewN n) B A vs := h
theorem Row.take (h : Row w B A vs) (n : Nat) : Row w B A (vs.take n) := fun k v hv => h k v (by
  rw [List.getElem?_take] at hv
  split at hv
  · exact hv
  · cases hv)
theorem below_drewN (w : World) (B n : Nat) : Below B w (w.drewN n) := ⟨rfl, rfl, rfl, Nat.le_refl _, fun _ _ => rfl⟩
theorem Below.step {a b c : World} (h : Below a.heap.size a b) (k : Below b.heap.size b c) : Below a.heap.size a c := h.trans (k.mono h.size)
end

/-- a row that the call owns is a row -/
theorem Row.ofOwn {w : World} {base : Nat} {e : TypeId} {A : Option Addr} {n c : Nat} {vs : List Value} (h : w.ownsRow base e 1 (.slice A n c) n vs) : Row w w.heap.size A vs := fun k v hv => by
  have hl : vs.length = n := by have := h.1; omega
  have hk : k < vs.length := by
    rcases Nat.lt_or_ge k vs.length with h1 | h1
    · exact h1
    · rw [List.getElem?_eq_none h1] at hv; cases hv
  obtain ⟨g, cap, e1, _, hlt⟩ := h.form (by omega)
  have hA : A = some ⟨g, 0, none⟩ := by injection e1
  subst hA
  exact ⟨_, rfl, hlt, h.cells (g := g) rfl k v hv⟩

/-- bytes as cells -/
def bv (l : List UInt8) : List Value := l.map fun c => Value.int .u8 (c.toNat : Int)
theorem bv_len (l : List UInt8) : (bv l).length = l.length := by simp [bv]
theorem bv_append (l m : List UInt8) : bv (l ++ m) = bv l ++ bv m := by simp [bv]
theorem bv_one (l : List UInt8) : ∀ u ∈ bv l, u.oneCell' = true := by
  intro u hu
  simp only [bv, List.mem_map] at hu
  obtain ⟨c, _, rfl⟩ := hu
  rfl
/-- string(b) -/
theorem conv_bytes {P : Program} {w : World} {B : Nat} {src e dst : TypeId} (hs : P.underlying src = some (.slice e)) (he : P.underlying e = some (.int .u8)) (hd : P.underlying dst = some .string)
    {A : Option Addr} {l : List UInt8} (c : Nat) (hr : Row w B A (bv l)) : (convert src dst (.slice A l.length c)).run P w = .ok (.string ⟨l.toArray⟩) w := by
  cases A with
  | none =>
    have hl : l = [] := by
      cases l with
      | nil => rfl
      | cons x l =>
        obtain ⟨ad, e, _⟩ := hr.get 0 (by simp [bv])
        cases e
    subst hl
    rw [run_convert_bytes_nil w src e hs he _ _ dst hd]
    rfl
  | some a =>
    have hc : ∀ j v, ((l.map fun c => (c.toNat : Int)).map (Value.int .u8))[j]? = some v → w.cell? (a.add j) = some v := by
      intro j v hv
      obtain ⟨ad, e, _, h⟩ := hr j v (by simpa [bv] using hv)
      injection e with e
      subst e
      exact h
    have hl := run_loadCells_list (P := P) w a _ hc
    rw [run_convert_bytes_string w src dst e _ _ c hs he hd, run_bytesToString w a l.length c (l.map fun c => (c.toNat : Int)) (by simpa using hl), foldl_push_bytes]
    simp [ByteArray.empty, ByteArray.emptyWithCapacity, Function.comp_def]
    rfl
theorem row_of_block {w : World} {g : Nat} {cs : Array Value} {t : TypeId} (h : w.heap[g]? = some (.cells cs t (0, 0))) : Row w (g + 1) (some ⟨g, 0, none⟩) cs.toList := fun k v hv => by
  refine ⟨_, rfl, by simp, ?_⟩
  have e : (⟨g, 0, none⟩ : Addr).add k = ⟨g, k, none⟩ := by unfold Addr.add; split <;> simp_all
  rw [e]
  simp only [World.cell?, h]
  simpa using hv
theorem cell_new (w : World) (cs : Array Value) (t : TypeId) (i : Nat) : (w.alloc (.cells cs t)).cell? ⟨w.heap.size, i, none⟩ = cs[i]? := by
  simp only [World.cell?, heap_alloc_new w _]; rfl
/-! a row of the call's own, elements of one cell each -/
def Own (w : World) (base : Nat) (e : TypeId) (A : Option Addr) (c : Nat) (xs : List Value) : Prop := w.ownsRow base e 1 (.slice A xs.length c) xs.length xs
/-- what the program's tables say of a slice type t of elements e -/
def Elem (P : Program) (t e : TypeId) (bytes : Nat) : Prop := P.underlying t = some (.slice e) ∧ ∃ i z, P.info? e = some i ∧ i.zero = some z ∧ i.size = 1 ∧ i.bytes = bytes ∧ z.cells.size = 1
theorem elem_mk {P : Program} {t e : TypeId} {z : Value} {bytes : Nat} (ht : P.underlying t = some (.slice e)) (h : (P.info? e).map (fun i => (i.zero, i.size, i.bytes)) = some (some z, 1, bytes)) (hz : z.cells.size = 1) : Elem P t e bytes := by
  obtain ⟨i, h1, h2, h3, h4⟩ := info_parts h
  exact ⟨ht, i, z, h1, h2, h3, h4, hz⟩
section
variable {w w' : World} {base B c : Nat} {e : TypeId} {A : Option Addr} {xs : List Value}
theorem Own.nil (w : World) (base : Nat) (e : TypeId) : Own w base e none 0 [] := World.ownsRow_nil w base e 1
theorem Own.empty (w : World) (e : TypeId) (hb : base ≤ w.heap.size) : Own (w.alloc (.cells #[] e)) base e (some ⟨w.heap.size, 0, none⟩) 0 [] := World.ownsRow_made w #[] 0 hb (by simp [maxLen]) rfl
theorem Own.row (h : Own w base e A c xs) : Row w w.heap.size A xs := Row.ofOwn h
theorem Own.alloc (h : Own w base e A c xs) (o : Obj) : Own (w.alloc o) base e A c xs := World.ownsRow.alloc h o
theorem Own.drewN (h : Own w base e A c xs) (n : Nat) : Own (w.drewN n) base e A c xs := h
theorem Own.block (h : Own w base e A c xs) : ∀ k, (Value.slice A xs.length c).ownBlock = some k → base ≤ k ∧ k < w.heap.size := World.ownsRow.lt h
theorem Own.below (h : Own w base e A c xs) {w0 : World} (hb : Below B w0 w) (hg : w.grownBy w' (Value.slice A xs.length c).ownBlock) (hB : B ≤ base) (hs : base ≤ w.heap.size) : Below B w0 w' :=
  hb.grown hg (Nat.le_trans hB hs) fun k hk => Nat.le_trans hB (h.block k hk).1
theorem Own.later (h : Own w base e A c xs) (hb : Below w.heap.size w w') : Own w' base e A c xs :=
  World.ownsRow.kept h (row := none) ⟨hb.os, hb.tape, hb.output, hb.size, fun k hk _ => hb.block k hk⟩ (by
    cases A with
    | none => exact .inl rfl
    | some a => exact .inr (by simp [Value.ownBlock]))
theorem Own.cap (h : Own w base e A c xs) : xs.length ≤ c ∧ c ≤ maxLen := by
  rcases h.2 with ⟨h1, h2⟩ | ⟨g, cap, cur, h1, _, _, h2, h3, _⟩
  · injection h1 with _ _ h3; subst h3; exact ⟨by omega, by simp [maxLen]⟩
  · injection h1 with _ _ h4; subst h4; exact ⟨h2, h3⟩
end
section
variable {P : Program} {w : World}
theorem run_append_row {base : Nat} {t e : TypeId} {bytes : Nat} (ty : TypeId) (hE : Elem P t e bytes) {A A2 : Option Addr} {c c2 B : Nat} {xs news : List Value} (hown : Own w base e A c xs)
    (hr : Row w B A2 news) (h1 : ∀ u ∈ news, u.oneCell' = true) (h63 : xs.length + news.length ≤ maxLen) (hbytes : (xs.length + news.length) * bytes ≤ 140737488355328) (hbase : base ≤ w.heap.size) :
    ∃ A' c' w', (Builtin.append_ #[t, t] ty #[.slice A xs.length c, .slice A2 news.length c2]).run P w = .ok (.slice A' (xs.length + news.length) c') w' ∧ Own w' base e A' c' (xs ++ news) ∧ w.grownBy w' (Value.slice A xs.length c).ownBlock := by
  obtain ⟨ht, i, z, hi, hz, hs, hby, hzs⟩ := hE
  cases A2 with
  | none =>
    have hn : news = [] := by
      cases news with
      | nil => rfl
      | cons x l => obtain ⟨ad, e, _⟩ := hr.get 0 (by simp); cases e
    subst hn
    refine ⟨A, c, w, ?_, by simpa using hown, World.grownBy.refl w _⟩
    rcases hown.2 with ⟨h1, h2⟩ | ⟨g, cap, cur, h1, _, _, hnc, _⟩
    · injection h1 with h3 h4 h5
      subst h3 h5
      obtain rfl : xs = [] := List.eq_nil_of_length_eq_zero h2
      simp [Builtin.append_, run_underlying ht, sizeOf, typeInfo, hi, Builtin.lenOf, Builtin.firstCells]
    · injection h1 with h3 h4 h5
      subst h3 h5
      simp [Builtin.append_, run_underlying ht, sizeOf, typeInfo, hi, Builtin.lenOf, Builtin.firstCells, hnc, storeCells]
  | some ad =>
    have hc : ∀ j u, news[j]? = some u → w.cell? (ad.add j) = some u := fun j u hu => by
      obtain ⟨ad', e, _, h⟩ := hr j u hu
      injection e with e
      subst e
      exact h
    obtain ⟨v', w', hrun, h2, h3, _, _⟩ := run_append_own_at (P := P) w base t ty e i z 1 bytes ht hi hz hs hby hzs (by omega) _ _ xs hown ad news.length c2 news (by omega) hc h1 h63 hbytes hbase
    have hform : ∃ A' c', v' = .slice A' (xs.length + news.length) c' := by
      rcases h2.2 with ⟨h4, h5⟩ | ⟨g, cap, cur, h4, _⟩
      · exact ⟨none, 0, by rw [h4, h5]⟩
      · exact ⟨_, _, h4⟩
    obtain ⟨A', c', rfl⟩ := hform
    exact ⟨A', c', w', hrun, by unfold Own; rw [List.length_append]; exact h2, h3⟩
theorem wpList_append_row {ops : Array Oper} {rest : List Oper} {o : Oper} {a : Act} {Q : Exit → Act → World → Prop} (hgd : o.guard = none) (s x : Operand) (t : TypeId)
    (ho : o.op = .call { callee := .builtin .append, args := #[s, x], argTypes := #[t, t] })
    {base : Nat} {e : TypeId} {bytes : Nat} (hE : Elem P t e bytes) {A A2 : Option Addr} {c c2 n m B : Nat} {xs news : List Value}
    (hs : a.eval s = .slice A n c) (hn : n = xs.length) (hown : Own w base e A c xs) (hx : a.eval x = .slice A2 m c2) (hm : m = news.length)
    (hr : Row w B A2 news) (h1 : ∀ u ∈ news, u.oneCell' = true) (h63 : xs.length + news.length ≤ maxLen) (hbytes : (xs.length + news.length) * bytes ≤ 140737488355328) (hbase : base ≤ w.heap.size)
    (h : ∀ A' c' w', Own w' base e A' c' (xs ++ news) → w.grownBy w' (Value.slice A xs.length c).ownBlock → wpList P ops Q rest (a.put o.dst (.slice A' (n + m) c')) w') : wpList P ops Q (o :: rest) a w := by
  subst hn hm
  refine wpList_plain hgd fun K hK => ?_
  obtain ⟨A', c', w', hrun, h2, h3⟩ := run_append_row (P := P) o.type hE (c2 := c2) hown hr h1 h63 hbytes hbase
  unfold Oper.wp execOp
  simp only [ho, resolve, invoke, builtin, Sem.run_bind, Sem.run_pure, Result.andThen_ok, List.map_toArray, List.map_cons, List.map_nil, hs, hx, hrun]
  exact hK _ _ (h A' c' w' h2 h3)
end
/-- the same wherever the operation is wanted, guarded or not; the length under a name of the caller's -/
theorem wpList_append_rowG {P : Program} {w : World} {ops : Array Oper} {rest : List Oper} {o : Oper} {a : Act} {Q : Exit → Act → World → Prop} (hw : Region.wanted o (yielded ops a.tmps) = true) (s x : Operand) (t : TypeId)
    (ho : o.op = .call { callee := .builtin .append, args := #[s, x], argTypes := #[t, t] })
    {base : Nat} {e : TypeId} {bytes : Nat} (hE : Elem P t e bytes) {A A2 : Option Addr} {c c2 n m B : Nat} (k : Nat) {xs news : List Value}
    (hs : a.eval s = .slice A n c) (hn : n = xs.length) (hown : Own w base e A c xs) (hx : a.eval x = .slice A2 m c2) (hm : m = news.length) (hk : xs.length + news.length = k)
    (hr : Row w B A2 news) (h1 : ∀ u ∈ news, u.oneCell' = true) (h63 : k ≤ maxLen) (hbytes : k * bytes ≤ 140737488355328) (hbase : base ≤ w.heap.size)
    (h : ∀ A' c' w', Own w' base e A' c' (xs ++ news) → w.grownBy w' (Value.slice A xs.length c).ownBlock → wpList P ops Q rest (a.put o.dst (.slice A' k c')) w') : wpList P ops Q (o :: rest) a w := by
  subst hn hm hk
  refine wpList_step fun K hK => ?_
  rw [if_pos hw]
  obtain ⟨A', c', w', hrun, h2, h3⟩ := run_append_row (P := P) o.type hE (c2 := c2) hown hr h1 h63 hbytes hbase
  unfold Oper.wp execOp
  simp only [ho, resolve, invoke, builtin, Sem.run_bind, Sem.run_pure, Result.andThen_ok, List.map_toArray, List.map_cons, List.map_nil, hs, hx, hrun]
  exact hK _ _ (h A' c' w' h2 h3)
/-- behind append([]T{}, xs...) -/
theorem copy_step {W w1 : World} {e : TypeId} {A' : Option Addr} {c' : Nat} {vs : List Value} (ho : Own w1 W.heap.size e A' c' ([] ++ vs)) (hg : (W.alloc (.cells #[] e)).grownBy w1 (Value.slice (some ⟨W.heap.size, 0, none⟩) 0 0).ownBlock) :
    Row w1 w1.heap.size A' vs ∧ Below W.heap.size W w1 ∧ Own w1 W.heap.size e A' c' vs :=
  ⟨ho.row, (Own.empty W e (Nat.le_refl _)).below ((Below.refl _ W).alloc (Nat.le_refl _) _) hg (Nat.le_refl _) (by simp), ho⟩
theorem add_zero_block (g k : Nat) : (⟨g, 0, none⟩ : Addr).add k = ⟨g, k, none⟩ := by unfold Addr.add; split <;> simp_all
theorem Row.set {w : World} {B g : Nat} {vs : List Value} (h : Row w B (some ⟨g, 0, none⟩) vs) (k : Nat) (u : Value) : Row (w.setCell ⟨g, k, none⟩ u) B (some ⟨g, 0, none⟩) (vs.set k u) := fun j v hv => by
  rw [List.getElem?_set] at hv
  by_cases e : k = j
  · subst e
    by_cases hl : k < vs.length
    · simp only [if_true, if_pos hl, Option.some.injEq] at hv
      subst hv
      obtain ⟨ad, e, hb, hc⟩ := h.get k hl
      injection e with e
      subst e
      rw [add_zero_block] at hc
      refine ⟨_, rfl, hb, ?_⟩
      rw [add_zero_block]
      exact World.cell?_setCell_same _ _ _ hc
    · simp [hl] at hv
  · simp only [if_neg e] at hv
    obtain ⟨ad, e1, hb, hc⟩ := h j v hv
    injection e1 with e1
    subst e1
    refine ⟨_, rfl, hb, ?_⟩
    rw [add_zero_block] at hc ⊢
    rw [World.cell?_setCell_other w _ _ u (fun g => by injection g with _ g; exact e g)]
    exact hc
/-- []byte(s) -/
theorem conv_string {P : Program} (w : World) {src dst e : TypeId} (s : ByteArray) (hs : P.underlying src = some .string) (hd : P.underlying dst = some (.slice e)) (he : P.underlying e = some (.int .u8)) :
    ∃ C W, (convert src dst (.string s)).run P w = .ok (.slice (some ⟨w.heap.size, 0, none⟩) s.size C) W ∧ s.size ≤ C ∧ Below w.heap.size w W ∧ W.heap.size = w.heap.size + 1 ∧ Row W (w.heap.size + 1) (some ⟨w.heap.size, 0, none⟩) (bv s.data.toList) ∧
      ∀ j, j < s.size → W.frozen? ⟨w.heap.size, j, none⟩ = false := by
  have hge := grownCap_ge w s.size 0 e
  have hsz : s.size ≤ (bytesRow s (grownCap w s.size 0 e)).size := by simp [bytesRow]
  refine ⟨grownCap w s.size 0 e, _, run_bytes_of_string w src dst e s hs hd he, hge, (Below.refl _ w).drew.alloc (Nat.le_refl _) _, by simp, ?_, ?_⟩
  · intro k v hv
    refine ⟨_, rfl, by simp, ?_⟩
    have hk : k < s.data.size := by
      rcases Nat.lt_or_ge k s.data.size with g | g
      · exact g
      · rw [List.getElem?_eq_none (by simpa [bv] using g)] at hv; cases hv
    have e1 := bytesRow_at s (grownCap w s.size 0 e) k hk
    have e2 : (w.drew.alloc (.cells (bytesRow s (grownCap w s.size 0 e)) e ((bytesRow s (grownCap w s.size 0 e)).size, (bytesRow s (grownCap w s.size 0 e)).size + 1))).heap[w.heap.size]? = some (.cells (bytesRow s (grownCap w s.size 0 e)) e ((bytesRow s (grownCap w s.size 0 e)).size, (bytesRow s (grownCap w s.size 0 e)).size + 1)) := heap_alloc_new w.drew _
    rw [add_zero_block]
    simp only [World.cell?, e2, Option.isSome_none, Bool.false_eq_true, if_false]
    rw [e1, ← hv]
    simp [bv, Array.getElem?_eq_getElem hk]
  · intro j hj
    have e2 : (w.drew.alloc (.cells (bytesRow s (grownCap w s.size 0 e)) e ((bytesRow s (grownCap w s.size 0 e)).size, (bytesRow s (grownCap w s.size 0 e)).size + 1))).heap[w.heap.size]? = some (.cells (bytesRow s (grownCap w s.size 0 e)) e ((bytesRow s (grownCap w s.size 0 e)).size, (bytesRow s (grownCap w s.size 0 e)).size + 1)) := heap_alloc_new w.drew _
    simp only [World.frozen?, e2]
    simp
    omega
theorem quiet_any {P : Program} {f : FuncId} {args : Array Value} {w : World} {v : Value} {X : World → Prop} (h : Calls P f args w fun e w' => e = .returned v ∧ ∃ n, w' = w.drewN n) (hx : ∀ n, X (w.drewN n)) :
    Calls P f args w fun e w' => e = .returned v ∧ X w' := h.mono fun _ _ ⟨he, n, hn⟩ => ⟨he, by rw [hn]; exact hx n⟩
theorem strs_one (ps : List ByteArray) : ∀ u ∈ ps.map Value.string, u.oneCell' = true := by
  intro u hu
  obtain ⟨p, _, rfl⟩ := List.mem_map.1 hu
  rfl
theorem ret_bool {a b : Bool} (h : a = b) : Ending.returned (.bool a) = .returned (.bool b) := by rw [h]
theorem ret_int {k : IntKind} {a b : Int} (h : a = b) : Ending.returned (.int k a) = .returned (.int k b) := by rw [h]
theorem ret_str {a b : ByteArray} (h : a = b) : Ending.returned (.string a) = .returned (.string b) := by rw [h]
end Go.Proofs.YtilcnhdfdgmekaaGreat.Base
namespace Go.Proofs.YtilcnhdfdgmekaaGreat.Reg
open Go.RowKit

theorem take_at {P : Program} {md : Region.Mode} {ops : Array Oper} {Q : Exit → Act → World → Prop} {i : Nat} {oi : Oper} {d : Tmp} {v : Value} {fuel : Nat} {listed : Array Bool} {a : Act} {w : World} (hi : ops[i]? = some oi) (hd : oi.dst = some d)
    (hs : Region.noSelect ops = true) (hf : Region.free md ops listed i = true) (hr : (Region.ready md ops listed).contains i = true)
    (hQ : ∀ c a w, Q (.panic c) (a.put (some d) v) w → Q (.panic c) a w) (hy : Yields P ops oi v a)
    (h : wpAny P md ops Q fuel (listed.setIfInBounds i true) (a.put (some d) v) w) : wpAny P md ops Q (fuel + 1) listed a w := by
  rw [← hd] at hQ h
  exact wpAny_take hi hs hf hr hQ hy h
end Go.Proofs.YtilcnhdfdgmekaaGreat.Reg
