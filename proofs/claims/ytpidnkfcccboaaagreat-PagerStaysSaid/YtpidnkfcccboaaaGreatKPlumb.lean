/- Base, Plumb, Reg, Held. -/
import Derived.Deep.AppendLies
import Derived.Deep.Draws
import Derived.Laws.BytesArg
import Derived.Laws.IdiomStrings
import Derived.Laws.OwnMore
import Derived.Lib.Hide
import Derived.Maps.AppendAt
import Derived.OneCell
import Derived.OpenShut
import Derived.OrdersHeld
import Derived.ProofKit
import Derived.RegionTactic
import Derived.WalkKit
import Derived.WalkSpells
namespace Go.Proofs.YtpidnkfcccboaaaGreat.Base
open Go.RowKit

theorem blk_add (a : Addr) (n : Nat) : (a.add n).block = a.block := by unfold Addr.add; split <;> rfl

/-- the cells from the slice's head A on are vs, all of them below block B -/
def Row (w : World) (B : Nat) (A : Option Addr) (vs : List Value) : Prop :=
 ∀ k v, vs[k]? = some v → ∃ ad, A = some ad ∧ ad.block < B ∧ w.cell? (ad.add k) = some v

section
variable {w w' : World} {B B' : Nat} {A : Option Addr} {vs : List Value}
theorem Row.nil : Row w B A [] := fun k v h => by simp at h
theorem Row.get (h : Row w B A vs) (k : Nat) (hk : k < vs.length) : ∃ ad, A = some ad ∧ ad.block < B ∧ w.cell? (ad.add k) = some vs[k] :=
 h k _ (List.getElem?_eq_getElem hk)
theorem Row.keep (h : Row w B A vs) (hk : ∀ p : Addr, p.block < B → w'.cell? p = w.cell? p) : Row w' B A vs := fun k v hv => by
 obtain ⟨ad, e, hb, hc⟩ := h k v hv
 exact ⟨ad, e, hb, (hk _ (by rw [blk_add]; exact hb)).trans hc⟩
theorem Row.more (h : Row w B A vs) (hB : B ≤ B') : Row w B' A vs := fun k v hv => by
 obtain ⟨ad, e, hb, hc⟩ := h k v hv
 exact ⟨ad, e, by omega, hc⟩
theorem Row.below (h : Row w B A vs) (hb : Below B w w') : Row w' B A vs := h.keep fun _ hp => hb.cell hp
theorem Row.belowSize (h : Row w w.heap.size A vs) (hb : Below w.heap.size w w') : Row w' w'.heap.size A vs := (h.below hb).more hb.size
theorem Row.drewN (h : Row w B A vs) (n : Nat) : Row (w.drewN n) B A vs := h
theorem Row.take (h : Row w B A vs) (n : Nat) : Row w B A (vs.take n) := fun k v hv => h k v (by
 rw [List.getElem?_take] at hv
 split at hv
 ·exact hv
 ·cases hv)
theorem below_drewN (w : World) (B n : Nat) : Below B w (w.drewN n) := ⟨rfl, rfl, rfl, Nat.le_refl _, fun _ _ => rfl⟩
theorem Below.step {a b c : World} (h : Below a.heap.size a b) (k : Below b.heap.size b c) : Below a.heap.size a c := h.trans (k.mono h.size)
end

/-- a row that the call owns is a row -/
theorem Row.ofOwn {w : World} {base : Nat} {e : TypeId} {A : Option Addr} {n c : Nat} {vs : List Value} (h : w.ownsRow base e 1 (.slice A n c) n vs) : Row w w.heap.size A vs := fun k v hv => by
 have hl : vs.length = n := by have := h.1; omega
 have hk : k < vs.length := by
  rcases Nat.lt_or_ge k vs.length with h1 | h1
  ·exact h1
  ·rw [List.getElem?_eq_none h1] at hv; cases hv
 obtain ⟨g, cap, e1, _, hlt⟩ := h.form (by omega)
 have hA : A = some ⟨g, 0, none⟩ := by injection e1
 subst hA
 exact ⟨_, rfl, hlt, h.cells (g := g) rfl k v hv⟩

/-- bytes as cells -/
def bv (l : List UInt8) : List Value := l.map fun c => Value.int .u8 (c.toNat : Int)
theorem bv_len (l : List UInt8) : (bv l).length = l.length := by simp [bv]
theorem bv_append (l m : List UInt8) : bv (l ++ m) = bv l ++ bv m := by simp [bv]
theorem bv_one (l : List UInt8) : ∀ u ∈ bv l, u.oneCell' = true := by
 intro u hu
 simp only [bv, List.mem_map] at hu
 obtain ⟨c, _, rfl⟩ := hu
 rfl
/-- string(b) -/
theorem conv_bytes {P : Program} {w : World} {B : Nat} {src e dst : TypeId} (hs : P.underlying src = some (.slice e)) (he : P.underlying e = some (.int .u8)) (hd : P.underlying dst = some .string)
  {A : Option Addr} {l : List UInt8} (c : Nat) (hr : Row w B A (bv l)) : (convert src dst (.slice A l.length c)).run P w = .ok (.string ⟨l.toArray⟩) w := by
 cases A with
 | none =>
  have hl : l = [] := by
   cases l with
   | nil => rfl
   | cons x l =>
    obtain ⟨ad, e, _⟩ := hr.get 0 (by simp [bv])
    cases e
  subst hl
  rw [run_convert_bytes_nil w src e hs he _ _ dst hd]
  rfl
 | some a =>
  have hc : ∀ j v, ((l.map fun c => (c.toNat : Int)).map (Value.int .u8))[j]? = some v → w.cell? (a.add j) = some v := by
   intro j v hv
   obtain ⟨ad, e, _, h⟩ := hr j v (by simpa [bv] using hv)
   injection e with e
   subst e
   exact h
  have hl := run_loadCells_list (P := P) w a _ hc
  rw [run_convert_bytes_string w src dst e _ _ c hs he hd, run_bytesToString w a l.length c (l.map fun c => (c.toNat : Int)) (by simpa using hl), foldl_push_bytes]
  simp [ByteArray.empty, ByteArray.emptyWithCapacity, Function.comp_def]
  rfl
theorem row_of_block {w : World} {g : Nat} {cs : Array Value} {t : TypeId} (h : w.heap[g]? = some (.cells cs t (0, 0))) : Row w (g + 1) (some ⟨g, 0, none⟩) cs.toList := fun k v hv => by
 refine ⟨_, rfl, by simp, ?_⟩
 have e : (⟨g, 0, none⟩ : Addr).add k = ⟨g, k, none⟩ := by unfold Addr.add; split <;> simp_all
 rw [e]
 simp only [World.cell?, h]
 simpa using hv
/-! a row of the call's own, elements of one cell each -/
def Own (w : World) (base : Nat) (e : TypeId) (A : Option Addr) (c : Nat) (xs : List Value) : Prop := w.ownsRow base e 1 (.slice A xs.length c) xs.length xs
/-- what the program's tables say of a slice type t of elements e -/
def Elem (P : Program) (t e : TypeId) (bytes : Nat) : Prop := P.underlying t = some (.slice e) ∧ ∃ i z, P.info? e = some i ∧ i.zero = some z ∧ i.size = 1 ∧ i.bytes = bytes ∧ z.cells.size = 1
theorem elem_mk {P : Program} {t e : TypeId} {z : Value} {bytes : Nat} (ht : P.underlying t = some (.slice e)) (h : (P.info? e).map (fun i => (i.zero, i.size, i.bytes)) = some (some z, 1, bytes)) (hz : z.cells.size = 1) : Elem P t e bytes := by
 obtain ⟨i, h1, h2, h3, h4⟩ := info_parts h
 exact ⟨ht, i, z, h1, h2, h3, h4, hz⟩
section
variable {w w' : World} {base B c : Nat} {e : TypeId} {A : Option Addr} {xs : List Value}
theorem Own.nil (w : World) (base : Nat) (e : TypeId) : Own w base e none 0 [] := World.ownsRow_nil w base e 1
theorem Own.empty (w : World) (e : TypeId) (hb : base ≤ w.heap.size) : Own (w.alloc (.cells #[] e)) base e (some ⟨w.heap.size, 0, none⟩) 0 [] := World.ownsRow_made w #[] 0 hb (by simp [maxLen]) rfl
theorem Own.row (h : Own w base e A c xs) : Row w w.heap.size A xs := Row.ofOwn h
theorem Own.alloc (h : Own w base e A c xs) (o : Obj) : Own (w.alloc o) base e A c xs := World.ownsRow.alloc h o
theorem Own.drewN (h : Own w base e A c xs) (n : Nat) : Own (w.drewN n) base e A c xs := h
theorem Own.block (h : Own w base e A c xs) : ∀ k, (Value.slice A xs.length c).ownBlock = some k → base ≤ k ∧ k < w.heap.size := World.ownsRow.lt h
theorem Own.below (h : Own w base e A c xs) {w0 : World} (hb : Below B w0 w) (hg : w.grownBy w' (Value.slice A xs.length c).ownBlock) (hB : B ≤ base) (hs : base ≤ w.heap.size) : Below B w0 w' :=
 hb.grown hg (Nat.le_trans hB hs) fun k hk => Nat.le_trans hB (h.block k hk).1
theorem Own.later (h : Own w base e A c xs) (hb : Below w.heap.size w w') : Own w' base e A c xs :=
 World.ownsRow.kept h (row := none) ⟨hb.os, hb.tape, hb.output, hb.size, fun k hk _ => hb.block k hk⟩ (by
  cases A with
  | none => exact .inl rfl
  | some a => exact .inr (by simp [Value.ownBlock]))
theorem Own.cap (h : Own w base e A c xs) : xs.length ≤ c ∧ c ≤ maxLen := by
 rcases h.2 with ⟨h1, h2⟩ | ⟨g, cap, cur, h1, _, _, h2, h3, _⟩
 ·injection h1 with _ _ h3; subst h3; exact ⟨by omega, by simp [maxLen]⟩
 ·injection h1 with _ _ h4; subst h4; exact ⟨h2, h3⟩
end
section
variable {P : Program} {w : World}
theorem run_append_row {base : Nat} {t e : TypeId} {bytes : Nat} (ty : TypeId) (hE : Elem P t e bytes) {A A2 : Option Addr} {c c2 B : Nat} {xs news : List Value} (hown : Own w base e A c xs)
  (hr : Row w B A2 news) (h1 : ∀ u ∈ news, u.oneCell' = true) (h63 : xs.length + news.length ≤ maxLen) (hbytes : (xs.length + news.length) * bytes ≤ 140737488355328) (hbase : base ≤ w.heap.size) :
  ∃ A' c' w', (Builtin.append_ #[t, t] ty #[.slice A xs.length c, .slice A2 news.length c2]).run P w = .ok (.slice A' (xs.length + news.length) c') w' ∧ Own w' base e A' c' (xs ++ news) ∧ w.grownBy w' (Value.slice A xs.length c).ownBlock := by
 obtain ⟨ht, i, z, hi, hz, hs, hby, hzs⟩ := hE
 cases A2 with
 | none =>
  have hn : news = [] := by
   cases news with
   | nil => rfl
   | cons x l => obtain ⟨ad, e, _⟩ := hr.get 0 (by simp); cases e
  subst hn
  refine ⟨A, c, w, ?_, by simpa using hown, World.grownBy.refl w _⟩
  rcases hown.2 with ⟨h1, h2⟩ | ⟨g, cap, cur, h1, _, _, hnc, _⟩
  ·injection h1 with h3 h4 h5
   subst h3 h5
   obtain rfl : xs = [] := List.eq_nil_of_length_eq_zero h2
   simp [Builtin.append_, run_underlying ht, sizeOf, typeInfo, hi, Builtin.lenOf, Builtin.firstCells]
  ·injection h1 with h3 h4 h5
   subst h3 h5
   simp [Builtin.append_, run_underlying ht, sizeOf, typeInfo, hi, Builtin.lenOf, Builtin.firstCells, hnc, storeCells]
 | some ad =>
  have hc : ∀ j u, news[j]? = some u → w.cell? (ad.add j) = some u := fun j u hu => by
   obtain ⟨ad', e, _, h⟩ := hr j u hu
   injection e with e
   subst e
   exact h
  obtain ⟨v', w', hrun, h2, h3, _, _⟩ := run_append_own_at (P := P) w base t ty e i z 1 bytes ht hi hz hs hby hzs (by omega) _ _ xs hown ad news.length c2 news (by omega) hc h1 h63 hbytes hbase
  have hform : ∃ A' c', v' = .slice A' (xs.length + news.length) c' := by
   rcases h2.2 with ⟨h4, h5⟩ | ⟨g, cap, cur, h4, _⟩
   ·exact ⟨none, 0, by rw [h4, h5]⟩
   ·exact ⟨_, _, h4⟩
  obtain ⟨A', c', rfl⟩ := hform
  exact ⟨A', c', w', hrun, by unfold Own; rw [List.length_append]; exact h2, h3⟩
theorem wpList_append_row {ops : Array Oper} {rest : List Oper} {o : Oper} {a : Act} {Q : Exit → Act → World → Prop} (hgd : o.guard = none) (s x : Operand) (t : TypeId)
  (ho : o.op = .call { callee := .builtin .append, args := #[s, x], argTypes := #[t, t] })
  {base : Nat} {e : TypeId} {bytes : Nat} (hE : Elem P t e bytes) {A A2 : Option Addr} {c c2 n m B : Nat} {xs news : List Value}
  (hs : a.eval s = .slice A n c) (hn : n = xs.length) (hown : Own w base e A c xs) (hx : a.eval x = .slice A2 m c2) (hm : m = news.length)
  (hr : Row w B A2 news) (h1 : ∀ u ∈ news, u.oneCell' = true) (h63 : xs.length + news.length ≤ maxLen) (hbytes : (xs.length + news.length) * bytes ≤ 140737488355328) (hbase : base ≤ w.heap.size)
  (h : ∀ A' c' w', Own w' base e A' c' (xs ++ news) → w.grownBy w' (Value.slice A xs.length c).ownBlock → wpList P ops Q rest (a.put o.dst (.slice A' (n + m) c')) w') : wpList P ops Q (o :: rest) a w := by
 subst hn hm
 refine wpList_plain hgd fun K hK => ?_
 obtain ⟨A', c', w', hrun, h2, h3⟩ := run_append_row (P := P) o.type hE (c2 := c2) hown hr h1 h63 hbytes hbase
 unfold Oper.wp execOp
 simp only [ho, resolve, invoke, builtin, Sem.run_bind, Sem.run_pure, Result.andThen_ok, List.map_toArray, List.map_cons, List.map_nil, hs, hx, hrun]
 exact hK _ _ (h A' c' w' h2 h3)
end
/-- behind append([]T{}, xs...) -/
theorem copy_step {W w1 : World} {e : TypeId} {A' : Option Addr} {c' : Nat} {vs : List Value} (ho : Own w1 W.heap.size e A' c' ([] ++ vs)) (hg : (W.alloc (.cells #[] e)).grownBy w1 (Value.slice (some ⟨W.heap.size, 0, none⟩) 0 0).ownBlock) :
  Row w1 w1.heap.size A' vs ∧ Below W.heap.size W w1 ∧ Own w1 W.heap.size e A' c' vs :=
 ⟨ho.row, (Own.empty W e (Nat.le_refl _)).below ((Below.refl _ W).alloc (Nat.le_refl _) _) hg (Nat.le_refl _) (by simp), ho⟩
theorem add_zero_block (g k : Nat) : (⟨g, 0, none⟩ : Addr).add k = ⟨g, k, none⟩ := by unfold Addr.add; split <;> simp_all
theorem Row.set {w : World} {B g : Nat} {vs : List Value} (h : Row w B (some ⟨g, 0, none⟩) vs) (k : Nat) (u : Value) : Row (w.setCell ⟨g, k, none⟩ u) B (some ⟨g, 0, none⟩) (vs.set k u) := fun j v hv => by
 rw [List.getElem?_set] at hv
 by_cases e : k = j
 ·subst e
  by_cases hl : k < vs.length
  ·simp only [if_true, if_pos hl, Option.some.injEq] at hv
   subst hv
   obtain ⟨ad, e, hb, hc⟩ := h.get k hl
   injection e with e
   subst e
   rw [add_zero_block] at hc
   refine ⟨_, rfl, hb, ?_⟩
   rw [add_zero_block]
   exact World.cell?_setCell_same _ _ _ hc
  ·simp [hl] at hv
 ·simp only [if_neg e] at hv
  obtain ⟨ad, e1, hb, hc⟩ := h j v hv
  injection e1 with e1
  subst e1
  refine ⟨_, rfl, hb, ?_⟩
  rw [add_zero_block] at hc ⊢
  rw [World.cell?_setCell_other w _ _ u (fun g => by injection g with _ g; exact e g)]
  exact hc
theorem strs_one (ps : List ByteArray) : ∀ u ∈ ps.map Value.string, u.oneCell' = true := by
 intro u hu
 obtain ⟨p, _, rfl⟩ := List.mem_map.1 hu
 rfl
theorem ret_bool {a b : Bool} (h : a = b) : Ending.returned (.bool a) = .returned (.bool b) := by rw [h]
theorem ret_int {k : IntKind} {a b : Int} (h : a = b) : Ending.returned (.int k a) = .returned (.int k b) := by rw [h]
end Go.Proofs.YtpidnkfcccboaaaGreat.Base
namespace Go.Proofs.YtpidnkfcccboaaaGreat.Plumb
open Go.ChangeShapes Go.WideShapes Go.ChangeAt Go.RowKit Base

section
variable {H : Type} {enc : TypeId × Value → H} {P : Program}
theorem trodAll_below (hl : laidOutB P = true) {W W' : World} (hb : Below W.heap.size W W') : ∀ {ts : List TypeId} {vs : List Value} {ds : List (DataW H)} {ps : List MemPlace},
  (ts.all fun t => P.readableRec t && decide (t < P.types.size)) = true → DataW.TrodAll enc P W 0 (fun _ => true) true ts vs ds ps → (∀ x ∈ ps, x.block < W.heap.size) →
  DataW.TrodAll enc P W' 0 (fun b => decide (b < W.heap.size)) true ts vs ds ps
 | [], [], [], _, _, h, _ => h
 | [], [], _ :: _, _, _, h, _ => h.elim
 | [], _ :: _, _, _, _, h, _ => h.elim
 | _ :: _, [], _, _, _, h, _ => h.elim
 | _ :: _, _ :: _, [], _, _, h, _ => h.elim
 | t :: ts, v :: vs, d :: ds, ps, hr, h, hlt => by
  obtain ⟨p, q, h1, h2, rfl⟩ := h
  simp only [List.all_cons, Bool.and_eq_true, decide_eq_true_eq] at hr
  refine ⟨p, q, Below.trod hl hr.1.1 hr.1.2 h1 hb (fun x hx => hlt x (by simp [hx])), trodAll_below hl hb (by simpa using hr.2) h2 (fun x hx => hlt x (by simp [hx])), rfl⟩

/-- a law's end -/
theorem law_post {f : Func} {s : ChangeSpec} {W W' : World} {args : Array Value} {ds : List (DataW H)} {before : List MemPlace} {tb : TypeId} (hl : laidOutB P = true) (hrd : (f.params.toList.all fun t => P.readableRec t && decide (t < P.types.size)) = true)
  (hvars : s.vars = []) (hfn : s.fn H (ds ++ []) = { results := [.lit (.bool true)], args := ds }) (hres : f.resultTypes = #[tb]) (htb : P.underlying tb = some .bool)
  (hW : DataW.Whole enc P f.params.toList s.vars false W args.toList ds [] before) (hb : Below W.heap.size W W') : s.post enc P f false true false false W args (.bool true) W' := by
 have hW2 := hW
 obtain ⟨p, q, hA, hV, rfl, _, _⟩ := hW
 rw [hvars] at hV
 have hq : q = [] := by cases q <;> simp_all [DataW.TrodVars]
 subst hq
 refine ⟨ds, [], p ++ [], [], p, [], hW2, ?_, ?_, ?_, hb.frame _, fun h => by cases h⟩
 ·rw [hfn, hres]
  exact trodAll_cons_mk (shut_bool htb true) trodAll_mk0
 ·rw [hfn]
  exact trodAll_below hl hb hrd hA (fun x hx => hW2.lt x (by simp [hx]))
 ·rw [hfn, hvars]
  rfl

end
end Go.Proofs.YtpidnkfcccboaaaGreat.Plumb
namespace Go.Proofs.YtpidnkfcccboaaaGreat.Reg
open Go.RowKit

theorem take_at {P : Program} {md : Region.Mode} {ops : Array Oper} {Q : Exit → Act → World → Prop} {i : Nat} {oi : Oper} {d : Tmp} {v : Value} {fuel : Nat} {listed : Array Bool} {a : Act} {w : World} (hi : ops[i]? = some oi) (hd : oi.dst = some d)
  (hs : Region.noSelect ops = true) (hf : Region.free md ops listed i = true) (hr : (Region.ready md ops listed).contains i = true)
  (hQ : ∀ c a w, Q (.panic c) (a.put (some d) v) w → Q (.panic c) a w) (hy : Yields P ops oi v a)
  (h : wpAny P md ops Q fuel (listed.setIfInBounds i true) (a.put (some d) v) w) : wpAny P md ops Q (fuel + 1) listed a w := by
 rw [← hd] at hQ h
 exact wpAny_take hi hs hf hr hQ hy h
end Go.Proofs.YtpidnkfcccboaaaGreat.Reg
namespace Go.Proofs.YtpidnkfcccboaaaGreat.Held
open Go.RowKit

section
variable {P : Program} {md : Region.Mode} {ops : Array Oper} {Q : Exit → Act → World → Prop} {S : World → Prop} {z : Nat}
/-- whatever comes up next, S holds behind it, but behind z -/
def wpAnyG (P : Program) (md : Region.Mode) (ops : Array Oper) (Q : Exit → Act → World → Prop) (S : World → Prop) (z : Nat) : Nat → Array Bool → Act → World → Prop
 | 0, listed, a, w => Region.ready md ops listed = [] ∧ Q .normal a w
 | f + 1, listed, a, w => (Region.ready md ops listed = [] → Q .normal a w) ∧ ∀ i ∈ Region.ready md ops listed, wpOp P ops Q i (fun a' w' => (i = z ∨ S w') ∧ wpAnyG P md ops Q S z f (listed.setIfInBounds i true) a' w') a w
theorem any_of_G : ∀ (f : Nat) (listed : Array Bool) (a : Act) (w : World), wpAnyG P md ops Q S z f listed a w → wpAny P md ops Q f listed a w
 | 0, _, _, _, h => h
 | f + 1, _, _, _, h => ⟨h.1, fun i hi => wpOp_mono (fun a' w' k => any_of_G f _ a' w' k.2) (h.2 i hi)⟩
/-- D: i and operations that wait for one of D; none is listed; z is one -/
def deps (md : Region.Mode) (ops : Array Oper) (listed : Array Bool) (i z : Nat) (D : List Nat) : Bool :=
 D.contains z && !(z == i) && D.all fun j => (listed.getD j true == false) && (j == i || match ops[j]? with
  | some o => o.after.any fun e => Region.binds md e && D.contains e.on
  | none => false)
theorem deps_z {listed : Array Bool} {i : Nat} {D : List Nat} (h : deps md ops listed i z D = true) : z ∈ D ∧ z ≠ i := by
 simp only [deps, Bool.and_eq_true, List.contains_iff_mem, Bool.not_eq_true', beq_eq_false_iff_ne] at h
 exact h.1
theorem deps_un {listed : Array Bool} {i : Nat} {D : List Nat} (h : deps md ops listed i z D = true) {j : Nat} (hj : j ∈ D) : listed.getD j true = false := by
 simp only [deps, Bool.and_eq_true, List.all_eq_true, beq_iff_eq] at h
 exact (h.2 j hj).1
/-- what may come up is none of D, but i itself -/
theorem deps_ready {listed : Array Bool} {i : Nat} {D : List Nat} (h : deps md ops listed i z D = true) {j : Nat} (hj : j ∈ Region.ready md ops listed) (hne : j ≠ i) : j ∉ D := by
 intro hD
 have h0 := h
 simp only [deps, Bool.and_eq_true, List.all_eq_true, Bool.or_eq_true, beq_iff_eq] at h0
 have h1 := (h0.2 j hD).2
 simp only [hne, false_or] at h1
 obtain ⟨_, o, ho, hall⟩ := mem_ready.1 hj
 rw [ho] at h1
 obtain ⟨e, he, hb⟩ := Array.any_eq_true'.1 h1
 simp only [Bool.and_eq_true, List.contains_iff_mem] at hb
 have h2 := hall e he hb.1
 have h3 := deps_un h hb.2
 rcases Nat.lt_or_ge e.on listed.size with q | q
 ·simp [q] at h2 h3
  rw [h3] at h2
  cases h2
 ·simp [Array.getElem?_eq_none q] at h3
theorem deps_set {listed : Array Bool} {i : Nat} {D : List Nat} (h : deps md ops listed i z D = true) {j : Nat} (hj : j ∉ D) : deps md ops (listed.setIfInBounds j true) i z D = true := by
 simp only [deps, Bool.and_eq_true, List.all_eq_true, beq_iff_eq] at h ⊢
 refine ⟨h.1, fun k hk => ⟨?_, (h.2 k hk).2⟩⟩
 rw [getD_set_ne true (show j ≠ k by rintro rfl; exact hj hk)]
 exact (h.2 k hk).1
theorem G_first {i : Nat} {oi : Oper} {v : Value} {D : List Nat} (hi : ops[i]? = some oi) (hsel : ∀ (j : Nat) (o : Oper) cs b, ops[j]? = some o → o.op ≠ .select cs b) (hQ : ∀ c a w, Q (.panic c) (a.put oi.dst v) w → Q (.panic c) a w) :
  ∀ (f : Nat) (listed : Array Bool) (a : Act) (w : World), deps md ops listed i z D = true →
   (∀ j oj, ops[j]? = some oj → j ≠ i → listed.getD j true = false → (∀ e ∈ oj.after, Region.binds md e = true → e.on ≠ i) → oi.apart ops oj = true) →
   i ∈ Region.ready md ops listed → YieldsIf P ops S oi v a → S w → wpAnyG P md ops Q S z f (listed.setIfInBounds i true) (a.put oi.dst v) w → wpAnyG P md ops Q S z (f + 1) listed a w
 | f, listed, a, w, hD, hfree, hr, hy, hS, H => by
  refine ⟨fun e => absurd hr (by rw [e]; exact List.not_mem_nil), fun j hj => ?_⟩
  by_cases hji : j = i
  ·subst hji
   exact hy.wpOp hi hS ⟨.inr hS, H⟩
  ·have hjD := deps_ready hD hj hji
   match f, H with
   | 0, H =>
    have q := ready_mono hj hji
    rw [H.1] at q
    cases q
   | f + 1, H =>
    have k1 := H.2 j (ready_mono hj hji)
    obtain ⟨hun, oj, hoj, hall⟩ := mem_ready.1 hj
    have hiun := (mem_ready.1 hr).1
    have hno : ∀ e ∈ oj.after, Region.binds md e = true → e.on ≠ i := fun e he hb q => by
     have q1 := hall e he hb
     rw [q] at q1
     rcases Nat.lt_or_ge i listed.size with q2 | q2
     ·simp [q2] at hiun q1
      rw [hiun] at q1
      cases q1
     ·simp [Array.getElem?_eq_none q2] at hiun
    have k2 := wpOp_putIf hoj (hfree j oj hoj hji hun hno) (fun cs b => hsel i oi cs b hi) (fun cs b => hsel j oj cs b hoj) hQ hy k1
    refine wpOp_mono (fun a' w' k3 => ?_) k2
    have hS' : S w' := k3.2.1.resolve_left (fun e => hjD (e ▸ (deps_z hD).1))
    refine ⟨.inr hS', G_first hi hsel hQ f (listed.setIfInBounds j true) a' w' (deps_set hD hjD) (fun k ok hk hki hku hkn => ?_) (ready_mono hr (Ne.symm hji)) k3.1 hS' ?_⟩
    ·refine hfree k ok hk hki ?_ hkn
     by_cases q : j = k
     ·exact q ▸ hun
     ·rwa [getD_set_ne true q] at hku
    ·rw [Array.setIfInBounds_comm _ _ hji]
     exact k3.2.2
/-- an operation taken first: it yields wherever S holds, and z waits for it -/
theorem G_take {i : Nat} {oi : Oper} {d : Tmp} {v : Value} {fuel : Nat} {listed : Array Bool} {a : Act} {w : World} (D : List Nat) (hi : ops[i]? = some oi) (hd : oi.dst = some d)
  (hs : Region.noSelect ops = true) (hf : Region.free md ops listed i = true) (hr : (Region.ready md ops listed).contains i = true) (hD : deps md ops listed i z D = true)
  (hQ : ∀ c a w, Q (.panic c) (a.put (some d) v) w → Q (.panic c) a w) (hy : YieldsIf P ops S oi v a) (hS : S w)
  (h : wpAnyG P md ops Q S z fuel (listed.setIfInBounds i true) (a.put (some d) v) w) : wpAnyG P md ops Q S z (fuel + 1) listed a w := by
 rw [← hd] at hQ h
 exact G_first hi (Region.noSelect_spec hs) hQ fuel listed a w hD (Region.free_spec hi hf) (by simpa using hr) hy hS h
/-- what may come up, one by one -/
def ReadyG (P : Program) (md : Region.Mode) (ops : Array Oper) (Q : Exit → Act → World → Prop) (S : World → Prop) (z : Nat) (fuel : Nat) (listed : Array Bool) (a : Act) (w : World) (rs : List Nat) : Prop :=
 ∀ i ∈ rs, wpOp P ops Q i (fun a' w' => (i = z ∨ S w') ∧ wpAnyG P md ops Q S z fuel (listed.setIfInBounds i true) a' w') a w
section
variable {fuel : Nat} {listed : Array Bool} {a : Act} {w : World} {rs : List Nat}
theorem G_ready (hr : Region.ready md ops listed = rs) (hne : rs ≠ []) (h : ReadyG P md ops Q S z fuel listed a w rs) : wpAnyG P md ops Q S z (fuel + 1) listed a w :=
 ⟨fun e => absurd (hr ▸ e) hne, fun i hi => h i (hr ▸ hi)⟩
theorem G_done (hr : Region.ready md ops listed = []) (h : Q .normal a w) : ∀ fuel, wpAnyG P md ops Q S z fuel listed a w
 | 0 => ⟨hr, h⟩
 | _ + 1 => ⟨fun _ => h, fun i hi => by rw [hr] at hi; cases hi⟩
theorem G_nil : ReadyG P md ops Q S z fuel listed a w [] := fun _ h => by cases h
theorem G_cons {i : Nat} {o : Oper} (ho : ops[i]? = some o)
  (h : ∀ K' : Act → World → Prop, (∀ a w, S w ∧ wpAnyG P md ops Q S z fuel (listed.setIfInBounds i true) a w → K' a w) → if Region.wanted o (yielded ops a.tmps) = true then Oper.wp P o a w K' Q else K' (a.put o.dst undef) w)
  (hs : ReadyG P md ops Q S z fuel listed a w rs) : ReadyG P md ops Q S z fuel listed a w (i :: rs) := fun j hj => by
 rcases List.mem_cons.1 hj with rfl | hj
 ·exact wpOp_mono (fun _ _ k => ⟨.inr k.1, k.2⟩) (wpOp_step ho h)
 ·exact hs j hj
/-- z itself: S is wanted no more -/
theorem G_last {o : Oper} (ho : ops[z]? = some o)
  (h : ∀ K' : Act → World → Prop, (∀ a w, wpAnyG P md ops Q S z fuel (listed.setIfInBounds z true) a w → K' a w) → if Region.wanted o (yielded ops a.tmps) = true then Oper.wp P o a w K' Q else K' (a.put o.dst undef) w)
  (hs : ReadyG P md ops Q S z fuel listed a w rs) : ReadyG P md ops Q S z fuel listed a w (z :: rs) := fun j hj => by
 rcases List.mem_cons.1 hj with rfl | hj
 ·exact wpOp_mono (fun _ _ k => ⟨.inl rfl, k⟩) (wpOp_step ho h)
 ·exact hs j hj
end
end
end Go.Proofs.YtpidnkfcccboaaaGreat.Held
