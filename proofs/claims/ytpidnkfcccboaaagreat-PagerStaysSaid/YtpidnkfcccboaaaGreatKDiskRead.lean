/- DiskMem, DiskSmall, DiskRead. -/
import Derived.Test.YtpidnkfcccboaaaGreatKDiskPlain
import Derived.Test.YtpidnkfcccboaaaGreatKPlumb
import Derived.Test.YtpidnkfcccboaaaGreatRows
import Derived.IntWalk
import Derived.Laws.CopyOwn
import Derived.Maps.AppendAt
import Derived.Maps.OwnSet
namespace Go.Proofs.YtpidnkfcccboaaaGreat.DiskMem
open Go.RowKit Base DiskPlain Go.Maps

/-- block g is the cells cs of a thing of type t, none of them frozen -/
def At (w : World) (g : Nat) (t : TypeId) (cs : Array Value) : Prop := w.heap[g]? = some (.cells cs t (0, 0))
theorem heap_lt {w : World} {b : Nat} {o : Obj} (h : w.heap[b]? = some o) : b < w.heap.size := (Array.getElem?_eq_some_iff.1 h).1
section
variable {w w' : World} {g : Nat} {t : TypeId} {cs : Array Value}
theorem At.lt (h : At w g t cs) : g < w.heap.size := heap_lt h
theorem At.cell (h : At w g t cs) (i : Nat) : w.cell? ⟨g, i, none⟩ = cs[i]? := by unfold At at h; simp [World.cell?, h]
theorem At.frozen (h : At w g t cs) (i : Nat) : w.frozen? ⟨g, i, none⟩ = false := by unfold At at h; simp [World.frozen?, h]
theorem At.set (h : At w g t cs) (i : Nat) (u : Value) : At (w.setCell ⟨g, i, none⟩ u) g t (cs.setIfInBounds i u) := by
 unfold At at h ⊢
 simp [World.setCell, Array.getElem?_modify, h]
theorem At.same (h : At w g t cs) (e : w'.heap[g]? = w.heap[g]?) : At w' g t cs := e.trans h
end

/-- only blocks of F, and what is new, have turned -/
structure Turn (F : Nat → Prop) (w w' : World) : Prop where
 os : w'.os = w.os
 tape : w'.tape = w.tape
 output : w'.output = w.output
 size : w.heap.size ≤ w'.heap.size
 block : ∀ k, k < w.heap.size → ¬ F k → w'.heap[k]? = w.heap[k]?
section
variable {F G : Nat → Prop} {a b w : World}
theorem Turn.refl (F : Nat → Prop) (w : World) : Turn F w w := ⟨rfl, rfl, rfl, Nat.le_refl _, fun _ _ _ => rfl⟩
theorem Turn.trans {c : World} (h : Turn F a b) (k : Turn G b c) (hG : ∀ i, i < a.heap.size → G i → F i) : Turn F a c :=
 ⟨k.os.trans h.os, k.tape.trans h.tape, k.output.trans h.output, Nat.le_trans h.size k.size, fun i hi hn => (k.block i (Nat.lt_of_lt_of_le hi h.size) (fun g => hn (hG i hi g))).trans (h.block i hi hn)⟩
theorem Turn.step {c : World} (h : Turn F a b) (k : Turn F b c) : Turn F a c := h.trans k fun _ _ g => g
theorem Turn.mono (h : Turn F a b) (hG : ∀ i, i < a.heap.size → F i → G i) : Turn G a b := ⟨h.os, h.tape, h.output, h.size, fun i hi hn => h.block i hi fun f => hn (hG i hi f)⟩
theorem Turn.drew (h : Turn F a w) : Turn F a w.drew := ⟨h.os, h.tape, h.output, h.size, h.block⟩
theorem Turn.drewN (h : Turn F a w) (n : Nat) : Turn F a (w.drewN n) := ⟨h.os, h.tape, h.output, h.size, h.block⟩
theorem Turn.alloc (h : Turn F a w) (o : Obj) : Turn F a (w.alloc o) :=
 ⟨h.os, h.tape, h.output, Nat.le_trans h.size (by simp), fun i hi hn => (Below.heap_alloc w o i (Nat.lt_of_lt_of_le hi h.size)).trans (h.block i hi hn)⟩
theorem Turn.set (h : Turn F a w) (p : Addr) (hp : a.heap.size ≤ p.block ∨ F p.block) (u : Value) : Turn F a (w.setCell p u) :=
 ⟨h.os, h.tape, h.output, by simpa [World.setCell] using h.size, fun i hi hn => (Below.heap_setCell w p u i (by rintro rfl; exact hp.elim (fun q => by omega) hn)).trans (h.block i hi hn)⟩
theorem Turn.ofGrown {row : Option Nat} (h : a.grownBy w row) (hr : ∀ k, row = some k → k < a.heap.size → F k) : Turn F a w := ⟨h.os, h.tape, h.output, h.size, fun i hi hn => h.block i hi (fun e => hn (hr i e.symm hi))⟩
theorem Turn.ofBelow (h : Below a.heap.size a w) : Turn F a w := ⟨h.os, h.tape, h.output, h.size, fun i hi _ => h.block i hi⟩
theorem Turn.below (h : Turn F a w) {B : Nat} (hB : B ≤ a.heap.size) (hF : ∀ k, F k → B ≤ k) : Below B a w := ⟨h.os, h.tape, h.output, h.size, fun i hi => h.block i (by omega) (fun f => by have := hF i f; omega)⟩
theorem Turn.belowOf (h : Turn F a w) {W : World} {B : Nat} (hb : Below B W a) (hB : B ≤ a.heap.size) (hF : ∀ k, F k → B ≤ k) : Below B W w := hb.trans (h.below hB hF)
theorem Turn.setRow (h : Turn F a w) (g : Nat) (hg : a.heap.size ≤ g ∨ F g) (cs : Array Value) : Turn F a (w.setRow g cs) :=
 ⟨h.os, h.tape, h.output, by simpa using h.size, fun i hi hn => (setRow_other w g i cs (by rintro rfl; exact hg.elim (fun q => by omega) hn)).trans (h.block i hi hn)⟩
end

/-- a row of things of several cells each, in a block of its own: nil, or from the block's first cell on -/
def Wd (w : World) (e : TypeId) (size : Nat) (A : Option Addr) (n c : Nat) (xs : List Value) : Prop := w.ownsRow 0 e size (.slice A n c) n xs
section
variable {w w' : World} {e : TypeId} {size n c : Nat} {A : Option Addr} {xs : List Value}
theorem Wd.nil (w : World) (e : TypeId) (size : Nat) : Wd w e size none 0 0 [] := World.ownsRow_nil w 0 e size
theorem Wd.len (h : Wd w e size A n c xs) : xs.length = n * size := h.1
theorem Wd.form (h : Wd w e size A n c xs) (hn : 0 < n) : ∃ g cur, A = some ⟨g, 0, none⟩ ∧ w.heap[g]? = some (.cells cur e (0, 0)) ∧ n ≤ c ∧ c ≤ maxLen ∧ cur.size = c * size ∧ cur.toList.take (n * size) = xs := by
 rcases h.2 with ⟨_, h2⟩ | ⟨g, cap, cur, h1, _, h2, h3, h4, h5, h6⟩
 ·omega
 ·injection h1 with h7 h8 h9
  subst h9
  exact ⟨g, cur, h7, h2, h3, h4, h5, h6⟩
theorem Wd.cap (h : Wd w e size A n c xs) : n ≤ c ∧ c ≤ maxLen := by
 rcases h.2 with ⟨h1, h2⟩ | ⟨g, cap, cur, h1, _, h2, h3, h4, h5, h6⟩
 ·injection h1 with _ _ h3; subst h3; exact ⟨by omega, by simp [maxLen]⟩
 ·injection h1 with h7 h8 h9; subst h9; exact ⟨h3, h4⟩
theorem Wd.blk (h : Wd w e size A n c xs) : ∀ k, (Value.slice A n c).ownBlock = some k → k < w.heap.size := fun k hk => (World.ownsRow.lt h k hk).2
theorem Wd.same (h : Wd w e size A n c xs) (hs : ∀ k, (Value.slice A n c).ownBlock = some k → w'.heap[k]? = w.heap[k]?) : Wd w' e size A n c xs := by
 refine ⟨h.1, ?_⟩
 rcases h.2 with hn | ⟨g, cap, cur, h1, hb, h2, r⟩
 ·exact .inl hn
 ·refine .inr ⟨g, cap, cur, h1, hb, ?_, r⟩
  rw [hs g (by rw [h1]; rfl)]
  exact h2
theorem Wd.cell (h : Wd w e size A n c xs) {g : Nat} (hA : A = some ⟨g, 0, none⟩) {j : Nat} {u : Value} (hu : xs[j]? = some u) : w.cell? ⟨g, j, none⟩ = some u := by
 have := World.ownsRow.cells h (g := g) (by subst hA; rfl) j u hu
 rwa [add_zero_block] at this
theorem Wd.frozen (h : Wd w e size A n c xs) {g : Nat} (hA : A = some ⟨g, 0, none⟩) (j : Nat) : w.frozen? ⟨g, j, none⟩ = false := by
 rcases h.2 with ⟨h1, _⟩ | ⟨g', cap, cur, h1, _, h2, _⟩
 ·subst hA; cases h1
 ·subst hA
  injection h1 with h7
  injection h7 with h7
  injection h7 with h7
  subst h7
  simp [World.frozen?, h2]
/-- written anew from place off on -/
theorem take_splice {α : Type} (L : List α) (off m : Nat) (cs : List α) (h : off + cs.length ≤ m) (hm : m ≤ L.length) : (splice L off cs).take m = splice (L.take m) off cs := by
 unfold splice
 apply List.ext_getElem?
 intro k
 simp only [List.getElem?_take, List.getElem?_append, List.length_take, List.getElem?_drop]
 by_cases h1 : k < m
 ·simp only [if_pos h1]
  rw [show min off L.length = off by omega, show min off (min m L.length) = off by omega]
  by_cases h2 : k < off
  ·simp [h2]
  ·simp only [if_neg h2]
   by_cases h3 : k - off < cs.length
   ·simp [h3]
   ·simp only [if_neg h3]
    rw [if_pos (by omega)]
 ·simp only [if_neg h1]
  rw [show min off (min m L.length) = off by omega]
  simp only [if_neg (show ¬ k < off by omega), if_neg (show ¬ k - off < cs.length by omega)]
  rw [if_neg (by omega)]
theorem Wd.put (h : Wd w e size A n c xs) {g : Nat} (hA : A = some ⟨g, 0, none⟩) {cur : Array Value} (hg : w.heap[g]? = some (.cells cur e (0, 0))) {off : Nat} {cs : List Value} (hf : off + cs.length ≤ n * size) :
  Wd (w.setRow g (splice cur.toList off cs).toArray) e size A n c (splice xs off cs) := by
 subst hA
 rcases h.2 with ⟨h1, _⟩ | ⟨g', cap, cur', h1, hb, h2, h3, h4, h5, h6⟩
 ·cases h1
 ·injection h1 with h7 _ h8
  injection h7 with h7
  injection h7 with h7
  subst h7 h8
  rw [hg] at h2
  injection h2 with h2
  injection h2 with h2
  subst h2
  have hle : n * size ≤ cur.toList.length := by simp [h5]; exact Nat.mul_le_mul_right _ h3
  refine ⟨by rw [length_splice _ _ _ (by rw [h.1]; exact hf)]; exact h.1, .inr ⟨g, c, _, rfl, hb, setRow_heap w g cur _ e _ hg, h3, h4, ?_, ?_⟩⟩
  ·simp only [List.size_toArray]
   rw [length_splice _ _ _ (by omega)]
   simpa using h5
  ·simp only
   rw [take_splice _ _ _ _ hf hle, h6]
end

/-! the cells of pages, and of loose writes -/
def looseCells (l : List (Nat × Pg)) : List Value := (l.map fun x => Value.int .i64 (x.1 : Int) :: bv x.2).flatten
def lastCells (l : List Pg) : List Value := bv l.flatten
theorem flat_at {α : Type} (k : Nat) : ∀ (L : List (List α)), (∀ b ∈ L, b.length = k) → ∀ (p i : Nat) (b : List α), L[p]? = some b → i < k → L.flatten[p * k + i]? = b[i]?
 | [], _, p, i, b, h, _ => by simp at h
 | x :: L, hL, 0, i, b, h, hi => by
  simp at h
  subst h
  rw [List.flatten_cons, Nat.zero_mul, Nat.zero_add, List.getElem?_append_left (by rw [hL x (by simp)]; exact hi)]
 | x :: L, hL, p + 1, i, b, h, hi => by
  have hx := hL x (by simp)
  rw [List.flatten_cons, List.getElem?_append_right (by rw [hx, Nat.add_mul]; omega), hx, show (p + 1) * k + i - k = p * k + i by rw [Nat.add_mul]; omega]
  exact flat_at k L (fun b hb => hL b (by simp [hb])) p i b (by simpa using h) hi
theorem flat_len {α : Type} (k : Nat) : ∀ (L : List (List α)), (∀ b ∈ L, b.length = k) → L.flatten.length = L.length * k
 | [], _ => by simp
 | x :: L, h => by rw [List.flatten_cons, List.length_append, h x (by simp), flat_len k L (fun b hb => h b (by simp [hb]))]; simp [Nat.add_mul]; omega
theorem flat_splice {α : Type} (k : Nat) : ∀ (L : List (List α)), (∀ b ∈ L, b.length = k) → ∀ (p a : Nat) (b cs : List α), L[p]? = some b → a + cs.length ≤ k → splice L.flatten (p * k + a) cs = (L.set p (splice b a cs)).flatten
 | [], _, p, a, b, cs, h, _ => by simp at h
 | x :: L, hL, 0, a, b, cs, h, hi => by
  simp at h
  subst h
  have hx := hL x (by simp)
  simp only [splice, List.flatten_cons, Nat.zero_mul, Nat.zero_add, List.set_cons_zero, List.append_assoc]
  rw [List.take_append_of_le_length (by omega), List.drop_append_of_le_length (by omega)]
 | x :: L, hL, p + 1, a, b, cs, h, hi => by
  have hx := hL x (by simp)
  have ih := flat_splice k L (fun b hb => hL b (by simp [hb])) p a b cs (by simpa using h) hi
  simp only [List.set_cons_succ, List.flatten_cons]
  rw [← ih]
  unfold splice
  have e1 : (p + 1) * k + a = x.length + (p * k + a) := by rw [hx, Nat.add_mul]; omega
  have e2 : x.length + (p * k + a) + cs.length = x.length + (p * k + a + cs.length) := by omega
  rw [e1, List.take_length_add_append, e2, List.drop_length_add_append, List.append_assoc]
theorem bv_splice (L : List UInt8) (a : Nat) (cs : List UInt8) : bv (splice L a cs) = splice (bv L) a (bv cs) := by
 simp [splice, bv, List.map_take, List.map_drop]
theorem bv_at (l : List UInt8) (i : Nat) : (bv l)[i]? = l[i]?.map fun c => Value.int .u8 (c.toNat : Int) := by simp [bv]
theorem lastCells_len {L : List Pg} (h : ∀ b ∈ L, b.length = 256) : (lastCells L).length = L.length * 256 := by rw [lastCells, bv_len, flat_len 256 L h]
theorem lastCells_at {L : List Pg} (h : ∀ b ∈ L, b.length = 256) {p i : Nat} {b : Pg} (hp : L[p]? = some b) (hi : i < 256) : (lastCells L)[p * 256 + i]? = (bv b)[i]? := by
 rw [lastCells, bv_at, bv_at, flat_at 256 L h p i b hp hi]
theorem lastCells_splice {L : List Pg} (h : ∀ b ∈ L, b.length = 256) {p a : Nat} {b : Pg} (cs : List UInt8) (hp : L[p]? = some b) (ha : a + cs.length ≤ 256) : splice (lastCells L) (p * 256 + a) (bv cs) = lastCells (L.set p (splice b a cs)) := by
 rw [lastCells, lastCells, ← bv_splice, flat_splice 256 L h p a b cs hp ha]
theorem lastCells_append (L M : List Pg) : lastCells (L ++ M) = lastCells L ++ lastCells M := by simp [lastCells, bv]
theorem lastCells_zeros (n : Nat) : lastCells (List.replicate n zeros) = List.replicate (n * 256) (Value.int .u8 0) := by
 apply List.ext_getElem (by rw [lastCells_len (by intro b hb; obtain ⟨_, rfl⟩ := List.mem_replicate.1 hb; exact zeros_len)]; simp)
 intro i h1 h2
 simp only [lastCells, bv, List.getElem_map, List.getElem_replicate]
 have hm : ∀ c ∈ (List.replicate n zeros).flatten, c = 0 := by
  intro c hc
  obtain ⟨l, hl, hc⟩ := List.mem_flatten.1 hc
  obtain ⟨_, rfl⟩ := List.mem_replicate.1 hl
  exact (List.mem_replicate.1 hc).2
 rw [hm _ (List.getElem_mem _)]
 rfl
section
variable {l : List (Nat × Pg)} (h : ∀ x ∈ l, x.2.length = 256)
include h
theorem loose_each : ∀ b ∈ (l.map fun x => Value.int .i64 (x.1 : Int) :: bv x.2), b.length = 257 := by
 intro b hb
 obtain ⟨x, hx, rfl⟩ := List.mem_map.1 hb
 simp [bv, h x hx]
theorem looseCells_at {i j : Nat} {x : Nat × Pg} (hx : l[i]? = some x) (hj : j < 256) : (looseCells l)[i * 257 + 1 + j]? = (bv x.2)[j]? := by
 have := flat_at 257 _ (loose_each h) i (j + 1) (Value.int .i64 (x.1 : Int) :: bv x.2) (by simp [hx]) (by omega)
 rw [looseCells, show i * 257 + 1 + j = i * 257 + (j + 1) by omega, this]
 simp
end
theorem looseCells_snoc (l : List (Nat × Pg)) (p : Nat) (b : Pg) : looseCells (l ++ [(p, b)]) = looseCells l ++ (Value.int .i64 (p : Int) :: bv b) := by simp [looseCells]
/-- the map tells each page's newest loose write -/
def Newest (D : DataW Unit) (l : List (Nat × Pg)) : Prop :=
 ∀ p : Nat, (has D (.int .i64 (p : Int)) = true → ∃ i : Nat, ∃ b, D.atKey (.int .i64 (p : Int)) (.lit (.int .i64 0)) = .lit (.int .i64 (i : Int)) ∧ l[i]? = some (p, b) ∧ ∀ j x, i < j → l[j]? = some x → x.1 ≠ p) ∧
  (has D (.int .i64 (p : Int)) = false → ∀ x ∈ l, x.1 ≠ p)
/-- a page p that has a loose write i, and none behind it, reads so -/
theorem over_hit {l : List (Nat × Pg)} {p i : Nat} {b : Pg} (hi : l[i]? = some (p, b)) (hn : ∀ j x, i < j → l[j]? = some x → x.1 ≠ p) (s : Pg) : over l p s = b := by
 have hlt : i < l.length := (List.getElem?_eq_some_iff.1 hi).1
 have e : l = l.take i ++ (p, b) :: l.drop (i + 1) := by
  have := List.getElem_cons_drop hlt
  rw [(List.getElem?_eq_some_iff.1 hi).2] at this
  rw [this, List.take_append_drop]
 have hd : ∀ x ∈ l.drop (i + 1), x.1 ≠ p := by
  intro x hx
  obtain ⟨k, hk, rfl⟩ := List.getElem_of_mem hx
  refine hn (i + 1 + k) _ (by omega) ?_
  rw [List.getElem_drop, List.getElem?_eq_getElem]
 have hno : ∀ (m : List (Nat × Pg)) (s : Pg), (∀ x ∈ m, x.1 ≠ p) → over m p s = s := by
  intro m
  induction m with
  | nil => intro s _; rfl
  | cons y m ih => intro s h; simp only [over, List.foldl_cons] at ih ⊢; rw [if_neg (h y (by simp))]; exact ih s fun x hx => h x (by simp [hx])
 rw [e]
 unfold over
 rw [List.foldl_append, List.foldl_cons, if_pos rfl]
 exact hno _ _ hd
theorem over_miss {p : Nat} : ∀ {m : List (Nat × Pg)} (s : Pg), (∀ x ∈ m, x.1 ≠ p) → over m p s = s := by
 intro m
 induction m with
 | nil => intro s _; rfl
 | cons y m ih => intro s h; simp only [over, List.foldl_cons] at ih ⊢; rw [if_neg (h y (by simp))]; exact ih s fun x hx => h x (by simp [hx])
theorem newest_empty : Newest (.map []) [] := fun p => ⟨fun h => by simp [has] at h, fun _ x hx => by simp at hx⟩
theorem newest_put {D : DataW Unit} {l : List (Nat × Pg)} (hD : IsMap D) (h : Newest D l) (p : Nat) (b : Pg) : Newest (D.put (.int .i64 (p : Int)) (.lit (.int .i64 (l.length : Int)))) (l ++ [(p, b)]) := by
 intro q
 by_cases e : q = p
 ·subst e
  refine ⟨fun _ => ⟨l.length, b, ?_, by simp, ?_⟩, fun hf => ?_⟩
  ·rw [atKey_put_same hD (show WideAt.IsKeyLit (.int .i64 (q : Int)) from trivial)]
  ·intro j x hj hx
   rw [List.getElem?_eq_none (by simp; omega)] at hx
   cases hx
  ·rw [has_put_same hD (show WideAt.IsKeyLit (.int .i64 (q : Int)) from trivial)] at hf; cases hf
 ·have hne : (Lit.int .i64 (q : Int)) ≠ .int .i64 (p : Int) := fun h => by injection h with _ h; exact e (by omega)
  rw [has_put_other hne, atKey_put_other hne]
  refine ⟨fun ht => ?_, fun hf => ?_⟩
  ·obtain ⟨i, c, h1, h2, h3⟩ := (h q).1 ht
   have hlt : i < l.length := (List.getElem?_eq_some_iff.1 h2).1
   refine ⟨i, c, h1, by rw [List.getElem?_append_left hlt]; exact h2, fun j x hj hx => ?_⟩
   rcases Nat.lt_or_ge j l.length with hl | hl
   ·rw [List.getElem?_append_left hl] at hx
    exact h3 j x hj hx
   ·rw [List.getElem?_append_right hl] at hx
    rcases Nat.eq_zero_or_pos (j - l.length) with h0 | h0
    ·rw [h0] at hx; simp at hx; subst hx; exact fun h => e h.symm
    ·rw [List.getElem?_eq_none (by simp; omega)] at hx; cases hx
  ·intro x hx
   simp only [List.mem_append, List.mem_singleton] at hx
   rcases hx with hx | rfl
   ·exact (h q).2 hf x hx
   ·exact fun h => e h.symm
/-- the disk at block g: its parts -/
structure Lay (w : World) (g : Nat) (S : DS) (A : Option Addr) (c : Nat) (B : Option Addr) (k : Nat) (m : Nat) (n : Nat) (D : DataW Unit) : Prop where
 st : At w g 107 #[.int .i64 S.most, .slice A S.last.length c, .slice B S.loose.length k, .map (some m), .bool S.fused, .int .i64 S.left]
 la : Wd w 147 256 A S.last.length c (lastCells S.last)
 lo : Wd w 149 257 B S.loose.length k (looseCells S.loose)
 mp : w.ownsMap Tryz.prog 3 (plainElem Tryz.prog 3) m n D
 nw : Newest D S.loose
 nn : n ≤ S.loose.length
 ok : S.Ok
/-- the blocks of its parts -/
def Parts (g : Nat) (A : Option Addr) (B : Option Addr) (m : Nat) (i : Nat) : Prop := i = g ∨ A.map (·.block) = some i ∨ B.map (·.block) = some i ∨ i = m
/-- the disk at block g is S, in blocks of F alone -/
def Dk (w : World) (g : Nat) (S : DS) (F : Nat → Prop) : Prop := ∃ A c B k m n D, Lay w g S A c B k m n D ∧ ∀ i, Parts g A B m i → F i
theorem own_blk {A : Option Addr} {n c i : Nat} (h : (Value.slice A n c).ownBlock = some i) : A.map (·.block) = some i := by cases A <;> simp [Value.ownBlock] at h ⊢; exact h
section
variable {w w' : World} {g : Nat} {S : DS} {F : Nat → Prop} {A B : Option Addr} {c k m n : Nat} {D : DataW Unit}
theorem Lay.lt (h : Lay w g S A c B k m n D) : ∀ i, Parts g A B m i → i < w.heap.size := by
 rintro i (rfl | hi | hi | rfl)
 ·exact h.st.lt
 ·refine h.la.blk i ?_
  cases A with
  | none => cases hi
  | some a => simpa [Value.ownBlock] using hi
 ·refine h.lo.blk i ?_
  cases B with
  | none => cases hi
  | some a => simpa [Value.ownBlock] using hi
 ·exact h.mp.lt
theorem Lay.same (h : Lay w g S A c B k m n D) (hs : ∀ i, Parts g A B m i → w'.heap[i]? = w.heap[i]?) : Lay w' g S A c B k m n D := by
 refine ⟨h.st.same (hs g (.inl rfl)), h.la.same fun i hi => hs i (.inr (.inl (own_blk hi))), h.lo.same fun i hi => hs i (.inr (.inr (.inl (own_blk hi)))), ?_, h.nw, h.nn, h.ok⟩
 obtain ⟨es, clock, hb, r⟩ := h.mp
 exact ⟨es, clock, (hs m (.inr (.inr (.inr rfl)))).trans hb, r⟩
/-! its parts lie in blocks apart -/
theorem Lay.neA (h : Lay w g S A c B k m n D) {i : Nat} (hi : (Value.slice A S.last.length c).ownBlock = some i) : i ≠ g ∧ i ≠ m ∧ ∃ cs, w.heap[i]? = some (.cells cs 147 (0, 0)) := by
 have hc : ∃ cs, w.heap[i]? = some (.cells cs 147 (0, 0)) := by
  rcases h.la.2 with ⟨h1, _⟩ | ⟨g', cap, cur, h1, _, h2, _⟩
  ·rw [h1] at hi; cases hi
  ·rw [h1] at hi; injection hi with hi; subst hi; exact ⟨_, h2⟩
 obtain ⟨cs, hc⟩ := hc
 refine ⟨?_, ?_, cs, hc⟩
 ·rintro rfl
  have := h.st
  unfold At at this
  rw [hc] at this
  simp at this
 ·rintro rfl
  obtain ⟨es, clock, hb, _⟩ := h.mp
  rw [hc] at hb
  cases hb
theorem Lay.neB (h : Lay w g S A c B k m n D) {i : Nat} (hi : (Value.slice B S.loose.length k).ownBlock = some i) : i ≠ g ∧ i ≠ m ∧ (Value.slice A S.last.length c).ownBlock ≠ some i ∧ ∃ cs, w.heap[i]? = some (.cells cs 149 (0, 0)) := by
 have hc : ∃ cs, w.heap[i]? = some (.cells cs 149 (0, 0)) := by
  rcases h.lo.2 with ⟨h1, _⟩ | ⟨g', cap, cur, h1, _, h2, _⟩
  ·rw [h1] at hi; cases hi
  ·rw [h1] at hi; injection hi with hi; subst hi; exact ⟨_, h2⟩
 obtain ⟨cs, hc⟩ := hc
 refine ⟨?_, ?_, ?_, cs, hc⟩
 ·rintro rfl
  have := h.st
  unfold At at this
  rw [hc] at this
  simp at this
 ·rintro rfl
  obtain ⟨es, clock, hb, _⟩ := h.mp
  rw [hc] at hb
  cases hb
 ·intro q
  obtain ⟨cs', h'⟩ := (h.neA q).2.2
  rw [hc] at h'
  simp at h'
theorem Lay.neM (h : Lay w g S A c B k m n D) : m ≠ g := by
 rintro rfl
 obtain ⟨es, clock, hb, _⟩ := h.mp
 have := h.st
 unfold At at this
 rw [hb] at this
 cases this
theorem map_same {w w' : World} {m n : Nat} {D : DataW Unit} {R : Value → Option (DataW Unit × List MemPlace)} {t : TypeId} (h : w.ownsMap Tryz.prog t R m n D) (e : w'.heap[m]? = w.heap[m]?) : w'.ownsMap Tryz.prog t R m n D := by
 obtain ⟨es, clock, hb, r⟩ := h
 exact ⟨es, clock, e.trans hb, r⟩
/-- the struct's block written anew, the rest as it was -/
theorem Lay.struct {w' : World} {S' : DS} (h : Lay w g S A c B k m n D) (hs : ∀ i, i ≠ g → w'.heap[i]? = w.heap[i]?) (hla : S'.last = S.last) (hlo : S'.loose = S.loose) (hok : S'.Ok)
  (hst : At w' g 107 #[.int .i64 S'.most, .slice A S.last.length c, .slice B S.loose.length k, .map (some m), .bool S'.fused, .int .i64 S'.left]) : Lay w' g S' A c B k m n D := by
 refine ⟨by rw [hla, hlo]; exact hst, ?_, ?_, map_same h.mp (hs m h.neM), by rw [hlo]; exact h.nw, by rw [hlo]; exact h.nn, hok⟩
 ·rw [hla]; exact h.la.same fun i hi => hs i (h.neA hi).1
 ·rw [hlo]; exact h.lo.same fun i hi => hs i (h.neB hi).1

theorem Dk.ok (h : Dk w g S F) : S.Ok := by obtain ⟨A, c, B, k, m, n, D, h, _⟩ := h; exact h.ok
theorem Dk.mono {G : Nat → Prop} (h : Dk w g S F) (hG : ∀ i, F i → i < w.heap.size → G i) : Dk w g S G := by
 obtain ⟨A, c, B, k, m, n, D, h, hp⟩ := h
 exact ⟨A, c, B, k, m, n, D, h, fun i hi => hG i (hp i hi) (h.lt i hi)⟩
/-- kept, where others turn -/
theorem Dk.kept {G : Nat → Prop} (h : Dk w g S F) (ht : Turn G w w') (hd : ∀ i, i < w.heap.size → F i → ¬ G i) : Dk w' g S F := by
 obtain ⟨A, c, B, k, m, n, D, h, hp⟩ := h
 exact ⟨A, c, B, k, m, n, D, h.same fun i hi => ht.block i (h.lt i hi) (hd i (h.lt i hi) (hp i hi)), hp⟩
theorem Dk.below (h : Dk w g S F) (hb : Below w.heap.size w w') : Dk w' g S F := h.kept (G := fun _ => False) (Turn.ofBelow hb) fun _ _ _ h => h
end
/-- behind a call: the disk is S, in the same blocks or in new ones; nothing else has turned -/
def Went (F : Nat → Prop) (g : Nat) (w : World) (S : DS) (w' : World) : Prop := ∃ F', (∀ i, F' i → (F i ∨ w.heap.size ≤ i) ∧ i < w'.heap.size) ∧ Dk w' g S F' ∧ Turn F w w'
theorem went_mk {F : Nat → Prop} {g : Nat} {w w' : World} {S : DS} {A B : Option Addr} {c k m n : Nat} {D : DataW Unit} (h : Lay w' g S A c B k m n D) (hp : ∀ i, Parts g A B m i → F i ∨ w.heap.size ≤ i) (ht : Turn F w w') : Went F g w S w' :=
 ⟨Parts g A B m, fun i hi => ⟨hp i hi, h.lt i hi⟩, ⟨A, c, B, k, m, n, D, h, fun _ h => h⟩, ht⟩
end Go.Proofs.YtpidnkfcccboaaaGreat.DiskMem
namespace Go.Proofs.YtpidnkfcccboaaaGreat.DiskSmall
open Go.RowKit Base DiskPlain DiskMem Go.Maps

section
variable {w : World} {g : Nat} {S : DS} {F : Nat → Prop} {A B : Option Addr} {c k m n : Nat} {D : DataW Unit}
theorem lay0 (h : Lay w g S A c B k m n D) : w.cell? ⟨g, 0, none⟩ = some (.int .i64 S.most) := by rw [h.st.cell]; rfl
theorem lay1 (h : Lay w g S A c B k m n D) : w.cell? ⟨g, 1, none⟩ = some (.slice A S.last.length c) := by rw [h.st.cell]; rfl
theorem lay2 (h : Lay w g S A c B k m n D) : w.cell? ⟨g, 2, none⟩ = some (.slice B S.loose.length k) := by rw [h.st.cell]; rfl
theorem lay3 (h : Lay w g S A c B k m n D) : w.cell? ⟨g, 3, none⟩ = some (.map (some m)) := by rw [h.st.cell]; rfl
theorem lay4 (h : Lay w g S A c B k m n D) : w.cell? ⟨g, 4, none⟩ = some (.bool S.fused) := by rw [h.st.cell]; rfl
theorem lay5 (h : Lay w g S A c B k m n D) : w.cell? ⟨g, 5, none⟩ = some (.int .i64 S.left) := by rw [h.st.cell]; rfl
theorem layF (h : Lay w g S A c B k m n D) (i : Nat) : w.frozen? ⟨g, i, none⟩ = false := h.st.frozen i

theorem dead_lay (h : Lay w g S A c B k m n D) : Calls Tryz.prog 40 #[.pointer (some ⟨g, 0, none⟩)] w fun e w' => e = .returned (.bool S.dead) ∧ w = w' := by
  have c4 := lay4 h
  have c5 := lay5 h
  unfold DS.dead
  generalize S.left = z at *
  cases hf : S.fused with
  | false =>
    rw [hf] at c4
    clear h hf
    go_enter Tryz.func40, Tryz.ntmps40
    go_wp2_with fail
    go_ret
    exact ⟨rfl, rfl⟩
  | true =>
    rw [hf] at c4
    clear h hf
    by_cases hz : z = 0
    · subst hz
      go_enter Tryz.func40, Tryz.ntmps40
      go_wp2_with fail
      go_ret
      exact ⟨rfl, rfl⟩
    · have hb : (z == 0) = false := beq_eq_false_iff_ne.2 hz
      clear hz
      go_enter Tryz.func40, Tryz.ntmps40
      go_wp2_with fail
      go_ret
      exact ⟨ret_bool (by rw [hb]; rfl), rfl⟩
theorem has_lay (h : Lay w g S A c B k m n D) (p : Int) : Calls Tryz.prog 74 #[.pointer (some ⟨g, 0, none⟩), .int .i64 p] w fun e w' => e = .returned (.bool (S.has p)) ∧ w = w' := by
  have c1 := lay1 h
  have hlen := h.ok.len4096
  unfold DS.has
  generalize S.last.length = z at *
  clear h
  by_cases h0 : 0 ≤ p
  · by_cases h1 : p < z
    · go_enter Tryz.func74, Tryz.ntmps74
      go_wp2_with fail
      go_ret
      exact ⟨ret_bool (by simp [h0, h1]), rfl⟩
    · go_enter Tryz.func74, Tryz.ntmps74
      go_wp2_with fail
      go_ret
      exact ⟨ret_bool (by simp [h1]), rfl⟩
  · go_enter Tryz.func74, Tryz.ntmps74
    go_wp2_with fail
    go_ret
    exact ⟨ret_bool (by simp; intro; omega), rfl⟩
theorem pages_lay (h : Lay w g S A c B k m n D) : Calls Tryz.prog 65 #[.pointer (some ⟨g, 0, none⟩)] w fun e w' => e = .returned (.int .i64 (S.last.length : Int)) ∧ w = w' := by
  have c1 := lay1 h
  clear h
  go_enter Tryz.func65, Tryz.ntmps65
  go_wp2_with fail
  go_ret
  exact ⟨rfl, rfl⟩
theorem burn_lay (h : Lay w g S A c B k m n D) (hd : S.fused = true → 1 ≤ S.left) : Calls Tryz.prog 112 #[.pointer (some ⟨g, 0, none⟩)] w fun e w' => e = .returned (.tuple #[]) ∧ Lay w' g S.burn A c B k m n D ∧ Turn (fun i => i = g) w w' := by
  have c4 := lay4 h
  have c5 := lay5 h
  have f5 := layF h 5
  have hok := h.ok.burn hd
  cases hf : S.fused with
  | false =>
    rw [hf] at c4
    have HL := Lib.hid (show Lay w g S.burn A c B k m n D by have e : S.burn = S := by simp [DS.burn, hf]
                                                             rw [e]; exact h)
    clear h hok hf
    go_enter Tryz.func112, Tryz.ntmps112
    go_wp2_with fail
    go_end0
    exact ⟨rfl, HL.out, Turn.refl _ _⟩
  | true =>
    rw [hf] at c4
    have h1 := hd hf
    have h2 := h.ok.l2
    have HL := Lib.hid (show Lay (w.setCell ⟨g, 5, none⟩ (.int .i64 (S.left - 1))) g S.burn A c B k m n D from
      h.struct (fun i hi => Below.heap_setCell w _ _ i hi) (by simp [DS.burn, hf]) (by simp [DS.burn, hf]) hok (by
        have := h.st.set 5 (.int .i64 (S.left - 1))
        simpa [DS.burn, hf] using this))
    clear h hok hf hd
    generalize S.left = z at *
    go_enter Tryz.func112, Tryz.ntmps112
    go_wp2_with fail
    go_end0
    exact ⟨rfl, HL.out, (Turn.refl (fun i => i = g) _).set ⟨g, 5, none⟩ (.inr rfl) _⟩

/-- clear of a map -/
theorem run_clear {t kt e ty : TypeId} (ht : Tryz.prog.underlying t = some (.map kt e)) {R : Value → Option (DataW Unit × List MemPlace)} (h : w.ownsMap Tryz.prog kt R m n D) :
    ∃ w', (Builtin.clear_ #[t] ty #[.map (some m)]).run Tryz.prog w = .ok (.tuple #[]) w' ∧ w'.ownsMap Tryz.prog kt R m 0 (.map []) ∧ Turn (fun i => i = m) w w' ∧ w'.heap.size = w.heap.size ∧ ∀ i, i ≠ m → w'.heap[i]? = w.heap[i]? := by
  obtain ⟨es, clock, hb, F, hs, rfl⟩ := h
  refine ⟨ChangeMaps.setBlock w m (.map #[] clock), ?_, ⟨#[], clock, ChangeMaps.heap_setBlock_same hb _, ⟨by simp, MapKept.stamped_empty clock, by simp⟩, Nat.le_refl _, rfl⟩, ⟨rfl, rfl, rfl, by simp [ChangeMaps.setBlock], fun i _ hi => ChangeMaps.heap_setBlock_other hb _ hi⟩, by simp [ChangeMaps.setBlock], fun i hi => ChangeMaps.heap_setBlock_other hb _ hi⟩
  simp [Builtin.clear_, run_underlying ht, MapKept.run_getObj_map hb, MapKept.run_setObj_map _ hb, Result.andThen, ChangeMaps.setBlock]
theorem forget_lay (h : Lay w g S A c B k m n D) : Calls Tryz.prog 116 #[.pointer (some ⟨g, 0, none⟩)] w fun e w' => e = .returned (.tuple #[]) ∧ Lay w' g S.forget A c none 0 m 0 (.map []) ∧ Turn (fun i => i = g ∨ i = m) w w' := by
  have c3 := lay3 h
  obtain ⟨w1, hrun, hm, ht, hsz, hot⟩ := run_clear (t := 64) (ty := 0) Tryz.underlying64 h.mp
  have hst : At w1 g 107 #[.int .i64 S.most, .slice A S.last.length c, .slice B S.loose.length k, .map (some m), .bool S.fused, .int .i64 S.left] := h.st.same (hot g (fun e => h.neM e.symm))
  have c2 : w1.cell? ⟨g, 2, none⟩ = some (.slice B S.loose.length k) := by rw [hst.cell]; rfl
  have f2 := hst.frozen 2
  have HL := Lib.hid (show Lay (w1.setCell ⟨g, 2, none⟩ (.slice none 0 0)) g S.forget A c none 0 m 0 (.map []) from by
    have ho : ∀ i, i ≠ g → (w1.setCell ⟨g, 2, none⟩ (.slice none 0 0)).heap[i]? = w1.heap[i]? := fun i hi => Below.heap_setCell w1 _ _ i hi
    refine ⟨by have := hst.set 2 (.slice none 0 0); simpa [DS.forget] using this, ?_, Wd.nil _ _ _, map_same hm (ho m h.neM), newest_empty, Nat.le_refl _, h.ok.forget⟩
    exact h.la.same fun i hi => (ho i (h.neA hi).1).trans (hot i (h.neA hi).2.1))
  have HT := Lib.hid (show Turn (fun i => i = g ∨ i = m) w (w1.setCell ⟨g, 2, none⟩ (.slice none 0 0)) from (ht.mono fun i _ e => .inr e).set ⟨g, 2, none⟩ (.inr (.inl rfl)) _)
  clear h hm ht hsz hot hst
  go_enter Tryz.func116, Tryz.ntmps116
  go_wp2_with fail
  go_end0
  exact ⟨rfl, HL.out, HT.out⟩
theorem new_good (w : World) (x : Int) (h1 : 1 ≤ x) (h2 : x ≤ 4096) : Calls Tryz.prog 28 #[.int .i64 x] w fun e w' => e = .returned (.tuple #[.pointer (some ⟨w.heap.size + 1, 0, none⟩), .int .i64 0]) ∧
    Lay w' (w.heap.size + 1) (new x) none 0 none 0 w.heap.size 0 (.map []) ∧ Below w.heap.size w w' := by
  have hmm := @run_makeMap Tryz.prog
  have HL := Lib.hid (show Lay ((w.alloc (.map #[] 0)).alloc (.cells #[.int .i64 x, .slice none 0 0, .slice none 0 0, .map (some w.heap.size), .bool false, .int .i64 0] 107)) (w.heap.size + 1) (new x) none 0 none 0 w.heap.size 0 (.map []) from
    ⟨heap_alloc2_new w _ _, Wd.nil _ _ _, Wd.nil _ _ _, (World.ownsMap_made w Tryz.prog 3 _).alloc _, newest_empty, Nat.le_refl _, new_ok h1 h2⟩)
  go_enter Tryz.func28, Tryz.ntmps28
  go_wp2_with fail
  go_ret2
  exact ⟨rfl, HL.out, ((Below.refl _ _).alloc (Nat.le_refl _) _).alloc (by simp) _⟩
end
end Go.Proofs.YtpidnkfcccboaaaGreat.DiskSmall
namespace Go.Proofs.YtpidnkfcccboaaaGreat.DiskRead
open Go.RowKit Base DiskPlain DiskMem DiskSmall Go.Maps

/-- a new row of 256 noughts -/
def zrow : Array Value := (bv zeros).toArray
theorem zrow_size : zrow.size = 256 := by simp [zrow, bv_len, zeros_len]
theorem mk_run (w : World) : (Instr.makeSlice 96 (.int .i64 256) (.int .i64 256)).run Tryz.prog w = .ok (.slice (some ⟨w.heap.size, 0, none⟩) 256 256) (w.alloc (.cells zrow 5)) := by
 have h : (Tryz.prog.info? 5).map (fun i => (i.zero, i.size, i.bytes)) = some (some (.int .u8 0), 1, 1) := by kernel_rfl
 obtain ⟨i, h1, h2, h3, h4⟩ := info_parts h
 have := run_make (P := Tryz.prog) w 96 5 i _ Tryz.underlying96 h1 h2 .i64 .i64 256 256 (by omega) (by omega) (by rw [h4]; omega) (by omega)
 have e : madeCells #[Value.int .u8 0] 256 = zrow := by
  apply Array.ext_getElem?
  intro k
  by_cases hk : k < 256
  ·rw [show zrow[k]? = some (.int .u8 0) by simp only [zrow, List.getElem?_toArray, bv_at, zeros, List.getElem?_replicate, if_pos hk]; rfl]
   simp [madeCells, hk, Nat.mod_one]
  ·rw [Array.getElem?_eq_none (show zrow.size ≤ k by rw [zrow_size]; omega)]
   simp [madeCells, hk]
 rw [this, h3]
 simp only [Value.cells, Nat.mul_one]
 rw [show Int.toNat 256 = 256 from rfl, e]
theorem add_blk (g o j : Nat) : (⟨g, o, none⟩ : Addr).add j = ⟨g, o + j, none⟩ := by unfold Addr.add; split <;> simp_all
/-- copy, where it goes over as far as both reach -/
theorem copy_run {w : World} (ty : TypeId) (g o dLen dCap : Nat) (a : Addr) (sLen sCap : Nat) (cur : Array Value) (t : TypeId) (cs : List Value) (hg : w.heap[g]? = some (.cells cur t (0, 0))) (hn : cs.length = Nat.min sLen dLen)
  (hsrc : ∀ j v, cs[j]? = some v → w.cell? (a.add j) = some v) (hfit : o + cs.length ≤ cur.size) (h1 : ∀ v ∈ cs, v.oneCell' = true) :
  (Builtin.copy_ #[96, 96] ty #[.slice (some ⟨g, o, none⟩) dLen dCap, .slice (some a) sLen sCap]).run Tryz.prog w = .ok (.int .i64 (cs.length : Int)) (w.setRow g (splice cur.toList o cs).toArray) := by
 have := run_copy_row (P := Tryz.prog) w 96 96 ty 5 g o dLen dCap a sLen sCap cur t cs Tryz.underlying96 (by kernel_rfl) hg hn hsrc hfit h1
 rw [this]
 simp [splice, goInt]
theorem setRow_new (w : World) (cur cs : Array Value) (t : TypeId) : (w.alloc (.cells cur t)).setRow w.heap.size cs = w.alloc (.cells cs t) := by
 unfold World.setRow World.alloc
 simp only
 congr 1
 apply Array.ext_getElem?
 intro i
 rw [Array.getElem?_modify, Array.getElem?_push, Array.getElem?_push]
 by_cases h : i = w.heap.size
 ·subst h; simp
 ·rw [if_neg (fun e => h e.symm), if_neg h, if_neg h]
theorem splice_all {α : Type} (L cs : List α) (h : cs.length = L.length) : splice L 0 cs = cs := by simp [splice, h]
/-- a page's copy into a new row -/
theorem copy_new {w : World} (gs os c : Nat) (l : Pg) (hl : l.length = 256) (hsrc : ∀ j v, (bv l)[j]? = some v → w.cell? ⟨gs, os + j, none⟩ = some v) :
  (Builtin.copy_ #[96, 96] 3 #[.slice (some ⟨w.heap.size, 0, none⟩) 256 256, .slice (some ⟨gs, os, none⟩) 256 c]).run Tryz.prog (w.alloc (.cells zrow 5)) = .ok (.int .i64 256) (w.alloc (.cells (bv l).toArray 5)) := by
 have hz := zrow_size
 have := copy_run (w := w.alloc (.cells zrow 5)) 3 w.heap.size 0 256 256 ⟨gs, os, none⟩ 256 c zrow 5 (bv l) (heap_alloc_new w _) (by simp [bv_len, hl]) (fun j v hv => by
  have hc := hsrc j v hv
  rw [add_blk, World.cell?_alloc_lt _ _ _ (World.block_lt_of_cell? w _ hc)]
  exact hc) (by simp [bv_len, hl, hz]) (bv_one l)
 rw [this, setRow_new, splice_all _ _ (by simp [bv_len, hl, hz]), bv_len, hl]
 rfl
section
variable {w : World} {g : Nat} {S : DS} {F : Nat → Prop} {A B : Option Addr} {c k m n : Nat} {D : DataW Unit}
theorem key_int (p : Nat) (hp : p ≤ 9223372036854775807) : keyOf Tryz.prog 3 (.int .i64 (p : Int)) = some (.int .i64 (p : Int)) := keyOf_int_mk Tryz.underlying3 (WalkArith.wf_i64 (by omega))
theorem law_int : Keyed Tryz.prog 3 := int_keyed Tryz.underlying3
theorem zero_int (w : World) : (zeroValue 3).run Tryz.prog w = .ok (.int .i64 0) w := by kernel_rfl
theorem look_int (h : w.ownsMap Tryz.prog 3 (plainElem Tryz.prog 3) m n D) (p : Nat) (hp : p ≤ 9223372036854775807) : ∃ c : Int, (Instr.lookup 64 (.map (some m)) (.int .i64 (p : Int)) true).run Tryz.prog w = .ok (.tuple #[.int .i64 c, .bool (has D (.int .i64 (p : Int)))]) w ∧ D.atKey (.int .i64 (p : Int)) (.lit (.int .i64 0)) = .lit (.int .i64 c) := by
 obtain ⟨v, ps, hrun, hv⟩ := h.look_ok law_int Tryz.underlying64 (zero_int w) (plainElem_int Tryz.underlying3 (by decide)) (key_int p hp)
 obtain ⟨c, rfl, hc, _⟩ := plainElem_int_inv Tryz.underlying3 hv
 exact ⟨c, hrun, congrArg Prod.fst hc⟩
set_option maxRecDepth 100000 in
theorem read_miss (h : Lay w g S A c B k m n D) (p : Nat) (hp : p < S.last.length) (hD : has D (.int .i64 (p : Int)) = false) : Calls Tryz.prog 47 #[.pointer (some ⟨g, 0, none⟩), .int .i64 (p : Int)] w fun e w' =>
  e = .returned (.tuple #[.slice (some ⟨w.heap.size, 0, none⟩) 256 256, .int .i64 0]) ∧ w' = w.alloc (.cells (bv (S.last.getD p [])).toArray 5) := by
 have hlen := h.ok.len4096
 have hh := has_lay h (p : Int)
 rw [has_iff.2 ⟨by omega, by omega⟩] at hh
 have hmk := mk_run
 have h1 : Lay (w.alloc (.cells zrow 5)) g S A c B k m n D := h.same fun i hi => Below.heap_alloc _ _ _ (h.lt i hi)
 obtain ⟨x, hlk, _⟩ := look_int h1.mp p (by omega)
 rw [hD] at hlk
 have c1 := lay1 h1
 have c3 := lay3 h1
 obtain ⟨gA, cur, hA, _⟩ := h.la.form (by omega)
 subst hA
 have hpg := getD_len h.ok.pages hp
 have hcp := copy_new (w := w) gA (p * 256) 256 (S.last.getD p []) hpg (fun j v hv => h.la.cell rfl (by
  have hj : j < 256 := by
   rcases Nat.lt_or_ge j 256 with q | q
   ·exact q
   ·rw [List.getElem?_eq_none (by rw [bv_len, hpg]; exact q)] at hv; cases hv
  rw [lastCells_at h.ok.pages (b := S.last.getD p []) (by simp [List.getElem?_eq_getElem hp]) hj]
  exact hv))
 clear h1 h hD hpg
 generalize bv (S.last.getD p []) = X at *
 go_enter Tryz.func47, Tryz.ntmps47
 go_wp2_with fail
 refine hh.mono ?_
 rintro e w' ⟨rfl, rfl⟩
 clear hh
 go_wp2_with fail
 go_ret2
 exact ⟨rfl, rfl⟩
set_option maxRecDepth 100000 in
theorem read_hit (h : Lay w g S A c B k m n D) (p : Nat) (hp : p < S.last.length) (hD : has D (.int .i64 (p : Int)) = true) (b : Pg) (i : Nat) (hlen2 : S.loose.length ≤ 1000000000) (hi : S.loose[i]? = some (p, b)) (hat : D.atKey (.int .i64 (p : Int)) (.lit (.int .i64 0)) = .lit (.int .i64 (i : Int))) :
  Calls Tryz.prog 47 #[.pointer (some ⟨g, 0, none⟩), .int .i64 (p : Int)] w fun e w' =>
  e = .returned (.tuple #[.slice (some ⟨w.heap.size, 0, none⟩) 256 256, .int .i64 0]) ∧ w' = w.alloc (.cells (bv b).toArray 5) := by
 have hlen := h.ok.len4096
 have hh := has_lay h (p : Int)
 rw [has_iff.2 ⟨by omega, by omega⟩] at hh
 have hmk := mk_run
 have h1 : Lay (w.alloc (.cells zrow 5)) g S A c B k m n D := h.same fun i hi => Below.heap_alloc _ _ _ (h.lt i hi)
 obtain ⟨x, hlk, hx⟩ := look_int h1.mp p (by omega)
 rw [hD] at hlk
 rw [hat] at hx
 injection hx with hx
 injection hx with _ hx
 subst hx
 have c2 := lay2 h1
 have c3 := lay3 h1
 have hil : i < S.loose.length := (List.getElem?_eq_some_iff.1 hi).1
 obtain ⟨gB, cur, hB, _⟩ := h.lo.form (by omega)
 subst hB
 have hpg := h.ok.wlen (p, b) (List.mem_of_getElem? hi)
 have hcp := copy_new (w := w) gB (i * 257 + 1) 256 b hpg (fun j v hv => h.lo.cell rfl (by
  have hj : j < 256 := by
   rcases Nat.lt_or_ge j 256 with q | q
   ·exact q
   ·rw [List.getElem?_eq_none (by rw [bv_len, hpg]; exact q)] at hv; cases hv
  rw [looseCells_at h.ok.wlen hi hj]
  exact hv))
 clear h1 h hD hpg hi hat
 generalize bv b = X at *
 go_enter Tryz.func47, Tryz.ntmps47
 go_wp2_with fail
 refine hh.mono ?_
 rintro e w' ⟨rfl, rfl⟩
 clear hh
 go_wp2_with fail
 go_ret2
 exact ⟨rfl, rfl⟩
/-- Read of a page that is there -/
theorem read_lay (h : Lay w g S A c B k m n D) (p : Nat) (hp : p < S.last.length) (hlen2 : S.loose.length ≤ 1000000000) :
  Calls Tryz.prog 47 #[.pointer (some ⟨g, 0, none⟩), .int .i64 (p : Int)] w fun e w' =>
  e = .returned (.tuple #[.slice (some ⟨w.heap.size, 0, none⟩) 256 256, .int .i64 0]) ∧ w' = w.alloc (.cells (bv (S.rd p)).toArray 5) := by
 cases hD : has D (.int .i64 (p : Int)) with
 | false =>
  rw [show S.rd p = S.last.getD p [] from over_miss _ ((h.nw p).2 hD)]
  exact read_miss h p hp hD
 | true =>
  obtain ⟨i, b, h1, h2, h3⟩ := (h.nw p).1 hD
  rw [show S.rd p = b from over_hit h2 h3 _]
  exact read_hit h p hp hD b i hlen2 h2 h1
end
end Go.Proofs.YtpidnkfcccboaaaGreat.DiskRead
