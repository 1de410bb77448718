/- Pages that were read, kept as a list; what each read was answered, as another one. -/
import Derived.Test.YtpidnkfcccboaaaGreatKPageRef
import Derived.Test.YtpidnkfcccboaaaGreatKPagerJoin
namespace Go.Proofs.YtpidnkfcccboaaaGreat.PagerKept
open Go.RowKit Base PagePlain PageSmall FreePlain FreeMem SuperPlain SuperRefCheck PagerPlain PagerTold PagerNum PagerCov PagerSpec PagerPlumb PagerLaw PagerDo PagerAwake PagerRun PagerJoin FreeCov DiskMem
open Go.Maps
open FreeCover (OM lawI zeroI wf_small)

abbrev Pz : Pg := ⟨0, 0, 0, 0, []⟩
def pgOf : Int ⊕ Pg → Pg
 | .inl _ => Pz
 | .inr q => q
def erOf : Int ⊕ Pg → Int
 | .inl k => k
 | .inr _ => 0
/-- a page, and where its cells are -/
abbrev Kp := Pg × Option Addr × Nat
def five (x : Kp) : List Value := [.int .i64 x.1.kind, .int .i64 x.1.no, .int .i64 x.1.epoch, .int .i64 x.1.link, .slice x.2.1 x.1.cells.length x.2.2]
def pgs (l : List Kp) : List Value := l.flatMap five
theorem pgs_len : ∀ l : List Kp, (pgs l).length = l.length * 5
 | [] => rfl
 | x :: l => by
  have := pgs_len l
  simp only [pgs, List.flatMap_cons, List.length_append, List.length_cons] at this ⊢
  rw [this]
  simp only [five, List.length_cons, List.length_nil]
  omega
theorem pgs_append (l m : List Kp) : pgs (l ++ m) = pgs l ++ pgs m := by simp [pgs]
theorem pgs_at : ∀ {l : List Kp} {k j : Nat} {x : Kp}, l[k]? = some x → j < 5 → (pgs l)[k * 5 + j]? = (five x)[j]?
 | [], k, j, x, h, _ => by simp at h
 | y :: l, 0, j, x, h, hj => by
  simp only [List.getElem?_cons_zero, Option.some.injEq] at h
  subst h
  simp only [pgs, List.flatMap_cons, Nat.zero_mul, Nat.zero_add]
  rw [List.getElem?_append_left (by simp [five]; omega)]
 | y :: l, k + 1, j, x, h, hj => by
  simp only [List.getElem?_cons_succ] at h
  have := pgs_at h hj
  simp only [pgs, List.flatMap_cons] at this ⊢
  rw [List.getElem?_append_right (by simp [five]; omega), ← this]
  congr 1
  simp only [five, List.length_cons, List.length_nil]
  omega
theorem five_one (l : List Kp) : ∀ u ∈ pgs l, u.oneCell' = true := fun u hu => by
 simp only [pgs, List.mem_flatMap] at hu
 obtain ⟨x, _, hx⟩ := hu
 simp only [five, List.mem_cons, List.not_mem_nil, or_false] at hx
 rcases hx with rfl | rfl | rfl | rfl | rfl <;> rfl
theorem info_p : (Tryz.prog.info? 69).map (fun i => (i.zero, i.size, i.bytes)) = some (some (.agg #[.int .i64 0, .int .i64 0, .int .i64 0, .int .i64 0, .slice none 0 0]), 5, 56) := by kernel_rfl
theorem under_p : Tryz.prog.underlying 30 = some (.slice 69) := Tryz.underlying30
theorem el_errs : Elem Tryz.prog 67 40 8 := elem_mk (z := .int .i64 0) Tryz.underlying67 (by kernel_rfl) rfl
/-- a list of pages of the law's own -/
def OwnP (w : World) (base : Nat) (A : Option Addr) (c : Nat) (l : List Kp) : Prop := w.ownsRow base 69 5 (.slice A l.length c) l.length (pgs l)
section
variable {w w' : World} {base B c : Nat} {A : Option Addr} {l : List Kp}
theorem OwnP.empty (w : World) (hb : base ≤ w.heap.size) : OwnP (w.alloc (.cells #[] 69)) base (some ⟨w.heap.size, 0, none⟩) 0 [] :=
 ⟨rfl, .inr ⟨w.heap.size, 0, #[], rfl, hb, heap_alloc_new w _, Nat.le_refl _, by simp [maxLen], rfl, rfl⟩⟩
theorem OwnP.block (h : OwnP w base A c l) : ∀ k, (Value.slice A l.length c).ownBlock = some k → base ≤ k ∧ k < w.heap.size := World.ownsRow.lt h
theorem OwnP.later (h : OwnP w base A c l) (hb : Below w.heap.size w w') : OwnP w' base A c l :=
 World.ownsRow.kept h (row := none) ⟨hb.os, hb.tape, hb.output, hb.size, fun k hk _ => hb.block k hk⟩ (by
  cases A with
  | none => exact .inl rfl
  | some a => exact .inr (by simp [Value.ownBlock]))
theorem OwnP.same (h : OwnP w base A c l) (hs : ∀ k, (Value.slice A l.length c).ownBlock = some k → w'.heap[k]? = w.heap[k]?) : OwnP w' base A c l := by
 refine ⟨h.1, ?_⟩
 rcases h.2 with hn | ⟨g, cap, cur, h1, hb, h2, r⟩
 ·exact .inl hn
 ·exact .inr ⟨g, cap, cur, h1, hb, (hs g (by rw [h1]; rfl)).trans h2, r⟩
theorem OwnP.row (h : OwnP w base A c l) : Row w w.heap.size A (pgs l) := fun k v hv => by
 have hk : k < (pgs l).length := by
  rcases Nat.lt_or_ge k (pgs l).length with h1 | h1
  ·exact h1
  ·rw [List.getElem?_eq_none h1] at hv; cases hv
 rw [pgs_len] at hk
 obtain ⟨g, cap, e1, _, hlt⟩ := World.ownsRow.form h (by omega)
 have hA : A = some ⟨g, 0, none⟩ := by injection e1
 subst hA
 exact ⟨_, rfl, hlt, World.ownsRow.cells h (g := g) rfl k v hv⟩
set_option maxRecDepth 100000 in
/-- append(own, x) -/
theorem run_append_p (h : OwnP w base A c l) {b : Nat} {x : Kp} (hx : w.heap[b]? = some (.cells #[.int .i64 x.1.kind, .int .i64 x.1.no, .int .i64 x.1.epoch, .int .i64 x.1.link, .slice x.2.1 x.1.cells.length x.2.2] 69 (0, 0))) (hl : l.length ≤ 1000000) (hbase : base ≤ w.heap.size) :
  ∃ A' c' w', (Builtin.append_ #[30, 30] 30 #[.slice A l.length c, .slice (some ⟨b, 0, none⟩) 1 1]).run Tryz.prog w = .ok (.slice A' (l.length + 1) c') w' ∧ OwnP w' base A' c' (l ++ [x]) ∧ w.grownBy w' (Value.slice A l.length c).ownBlock ∧
   ((Value.slice A' (l.length + 1) c').ownBlock = (Value.slice A l.length c).ownBlock ∨ (Value.slice A' (l.length + 1) c').ownBlock = some w.heap.size) := by
 obtain ⟨i, i1, i2, i3, i4⟩ := info_parts info_p
 have hlt : b < w.heap.size := (Array.getElem?_eq_some_iff.1 hx).1
 have hc : ∀ j u, (pgs [x])[j]? = some u → w.cell? ((⟨b, 0, none⟩ : Addr).add j) = some u := fun j u hu => by
  have e : (⟨b, 0, none⟩ : Addr).add j = ⟨b, j, none⟩ := by unfold Addr.add; split <;> simp_all
  rw [e]
  simp only [World.cell?, hx]
  simpa [pgs, five] using hu
 obtain ⟨v', w', hrun, h2, h3, _, h5⟩ := run_append_own_at (P := Tryz.prog) w base 30 30 69 i _ 5 56 under_p i1 i2 i3 i4 (by simp [Value.cells]) (by omega) _ _ (pgs l) h ⟨b, 0, none⟩ 1 1 (pgs [x]) (by rw [pgs_len]; rfl) hc (five_one _) (by simp only [maxLen]; omega) (by omega) hbase
 have hform : ∃ A' c', v' = .slice A' (l.length + 1) c' := by
  rcases h2.2 with ⟨h4, h5⟩ | ⟨g, cap, cur, h4, _⟩
  ·exact ⟨none, 0, by rw [h4, h5]⟩
  ·exact ⟨_, _, h4⟩
 obtain ⟨A', c', rfl⟩ := hform
 exact ⟨A', c', w', hrun, by unfold OwnP; rw [List.length_append, pgs_append]; exact h2, h3, h5⟩
end
/-- the law's own while it reads: the map of free pages, what was told last, the pages read and what was answered -/
structure Kd (M : Mem) (W : World) (p d : Nat) (P P0 : PS) (m : Int) (S : Blks) (mb nf : Nat) (D : D1) (bx B : Nat) (l : List Kp) (el : List Int) (A : Option Addr) (c : Nat) (A' : Option Addr) (c' : Nat) (w : World) : Prop where
 pm : PM M W w p d P m S
 om : OM w mb nf D
 x8 : At w bx 29 #[.int .i64 P0.x.ep, .int .i64 P0.x.root, .int .i64 P0.x.free, .int .i64 P0.x.pages]
 sb : S mb ∧ S bx
 hB : W.heap.size ≤ B ∧ mb < B ∧ bx < B
 sz : B ≤ w.heap.size
 was : OwnP w B A c l
 ers : Own w B 40 A' c' (intsV el)
 sw : ∀ b, (Value.slice A l.length c).ownBlock = some b → S b
 se : ∀ b, (Value.slice A' el.length c').ownBlock = some b → S b
 ne : ∀ b, (Value.slice A l.length c).ownBlock = some b → (Value.slice A' el.length c').ownBlock ≠ some b
 rows : ∀ x ∈ l, RowP w (fun b => S b ∧ (Value.slice A l.length c).ownBlock ≠ some b ∧ (Value.slice A' el.length c').ownBlock ≠ some b) x.2.1 (strs x.1.cells)
section
variable {M : Mem} (X : Specs M) {W w w' : World} {p d : Nat} {P P' P0 : PS} {m m' : Int} {S N : Blks} {mb nf : Nat} {D : D1} {bx B : Nat} {l : List Kp} {el : List Int} {A : Option Addr} {c : Nat} {A' : Option Addr} {c' : Nat}
theorem om_same {w w' : World} {b n : Nat} {D : D1} (h : OM w b n D) (e : w'.heap[b]? = w.heap[b]?) : OM w' b n D := by
 obtain ⟨es, clock, hb, r⟩ := h
 exact ⟨es, clock, e.trans hb, r⟩
theorem Kd.turn (h : Kd M W p d P P0 m S mb nf D bx B l el A c A' c' w) (t : Turn (Not S) w w') (hp : PM M W w' p d P' m' (fun b => S b ∨ N b)) : Kd M W p d P' P0 m' (fun b => S b ∨ N b) mb nf D bx B l el A c A' c' w' := by
 obtain ⟨h1, h2, h3, h4, h5, hz, h6, h7, h8, h9, h10, h11⟩ := h
 exact ⟨hp, om_same h2 (t.block _ h2.lt fun q => q h4.1), att h3 t h4.2, ⟨Or.inl h4.1, Or.inl h4.2⟩, h5, Nat.le_trans hz t.size, h6.same fun k hk => t.block k (h6.block k hk).2 fun q => q (h8 k hk),
  own_same h7 fun k hk => t.block k (h7.block k hk).2 fun q => q (h9 k (by rw [PagerSame.intsV_len] at hk; exact hk)), fun b hb => Or.inl (h8 b hb), fun b hb => Or.inl (h9 b hb), h10, fun x hx => ((h11 x hx).turn t fun b hb q => q hb.1).wide fun b hb => ⟨Or.inl hb.1, hb.2⟩⟩
theorem Kd.turn0 (h : Kd M W p d P P0 m S mb nf D bx B l el A c A' c' w) (t : Turn (Not S) w w') (hp : PM M W w' p d P' m' S) : Kd M W p d P' P0 m' S mb nf D bx B l el A c A' c' w' := by
 obtain ⟨h1, h2, h3, h4, h5, hz, h6, h7, h8, h9, h10, h11⟩ := h
 exact ⟨hp, om_same h2 (t.block _ h2.lt fun q => q h4.1), att h3 t h4.2, h4, h5, Nat.le_trans hz t.size, h6.same fun k hk => t.block k (h6.block k hk).2 fun q => q (h8 k hk),
  own_same h7 fun k hk => t.block k (h7.block k hk).2 fun q => q (h9 k (by rw [PagerSame.intsV_len] at hk; exact hk)), h8, h9, h10, fun x hx => (h11 x hx).turn t fun b hb q => q hb.1⟩
include X in
theorem Kd.below (h : Kd M W p d P P0 m S mb nf D bx B l el A c A' c' w) (hb : Below w.heap.size w w') : Kd M W p d P P0 m S mb nf D bx B l el A c A' c' w' :=
 h.turn0 (Turn.ofBelow hb) (h.pm.below X hb)
include X in
theorem Kd.more (h : Kd M W p d P P0 m S mb nf D bx B l el A c A' c' w) (hb : Below w.heap.size w w') : Kd M W p d P P0 m (Plus S w w') mb nf D bx B l el A c A' c' w' :=
 h.turn (N := fun b => w.heap.size ≤ b ∧ b < w'.heap.size) (Turn.ofBelow hb) (h.pm.more X hb)
include X in
/-- a page more -/
theorem Kd.page (h : Kd M W p d P P0 m S mb nf D bx B l el A c A' c' w) {x : Kp} {b : Nat} (hx : At w b 69 #[.int .i64 x.1.kind, .int .i64 x.1.no, .int .i64 x.1.epoch, .int .i64 x.1.link, .slice x.2.1 x.1.cells.length x.2.2]) (hr : RowP w (fun b => S b ∧ (Value.slice A l.length c).ownBlock ≠ some b ∧ (Value.slice A' el.length c').ownBlock ≠ some b) x.2.1 (strs x.1.cells)) (hl : l.length ≤ 1000000) :
  ∃ A2 c2 w2, (Builtin.append_ #[30, 30] 30 #[.slice A l.length c, .slice (some ⟨b, 0, none⟩) 1 1]).run Tryz.prog w = .ok (.slice A2 (l.length + 1) c2) w2 ∧ Kd M W p d P P0 m (Plus S w w2) mb nf D bx B (l ++ [x]) el A2 c2 A' c' w2 := by
 obtain ⟨h1, h2, h3, h4, h5, hz, h6, h7, h8, h9, h10, h11⟩ := h
 obtain ⟨A2, c2, w2, hrun, ho, hg, hloc⟩ := run_append_p h6 hx hl hz
 have t : Turn (fun b => (Value.slice A l.length c).ownBlock = some b) w w2 := Turn.ofGrown hg fun j hj _ => hj
 have hlt : ∀ b, (Value.slice A l.length c).ownBlock = some b → B ≤ b ∧ b < w.heap.size := h6.block
 have elen : (l ++ [x]).length = l.length + 1 := by simp
 have hnew : ∀ b, (Value.slice A2 (l.length + 1) c2).ownBlock = some b → b < w2.heap.size := fun b hb => (ho.block b (by rw [elen]; exact hb)).2
 have hrow : ∀ (y : Kp), RowP w (fun b => S b ∧ (Value.slice A l.length c).ownBlock ≠ some b ∧ (Value.slice A' el.length c').ownBlock ≠ some b) y.2.1 (strs y.1.cells) →
   RowP w2 (fun b => Plus S w w2 b ∧ (Value.slice A2 (l ++ [x]).length c2).ownBlock ≠ some b ∧ (Value.slice A' el.length c').ownBlock ≠ some b) y.2.1 (strs y.1.cells) := fun y r => by
  refine ((row_lt r).turn t fun b hb q => hb.1.2.1 q).wide fun b hb => ⟨Or.inl hb.1.1, ?_, hb.1.2.2⟩
  rw [elen]
  rcases hloc with q | q
  ·rw [q]; exact hb.1.2.1
  ·rw [q]; intro e; have := Option.some.inj e; omega
 refine ⟨A2, c2, w2, hrun, pm_own X h1 t (fun b _ hb => ⟨h8 b hb, Nat.le_trans h5.1 (hlt b hb).1⟩), om_same h2 (t.block _ h2.lt fun q => by have := (hlt _ q).1; omega), (t.block _ h3.lt fun q => by have := (hlt _ q).1; omega).trans h3, ⟨Or.inl h4.1, Or.inl h4.2⟩, h5, Nat.le_trans hz t.size, ho,
  own_same h7 fun k hk => t.block k (h7.block k hk).2 fun q => h10 k q (by rw [PagerSame.intsV_len] at hk; exact hk), fun b hb => ?_, fun b hb => Or.inl (h9 b hb), fun b hb => ?_, fun y hy => ?_⟩
 ·rw [elen] at hb
  have hb2 := hnew b hb
  rcases hloc with q | q
  ·rw [q] at hb; exact Or.inl (h8 b hb)
  ·rw [q] at hb; have := Option.some.inj hb; exact Or.inr ⟨by omega, hb2⟩
 ·rw [elen] at hb
  rcases hloc with q | q
  ·rw [q] at hb; exact h10 b hb
  ·rw [q] at hb; intro e; have := Option.some.inj hb; have := (h7.block b (by rw [PagerSame.intsV_len]; exact e)).2; omega
 ·rcases List.mem_append.1 hy with hy | hy
  ·exact hrow y (h11 y hy)
  ·rw [List.mem_singleton.1 hy]; exact hrow x hr
include X in
/-- an answer more -/
theorem Kd.err (h : Kd M W p d P P0 m S mb nf D bx B l el A c A' c' w) {z : Int} {b : Nat} (hx : At w b 40 #[.int .i64 z]) (hl : el.length ≤ 100000) :
  ∃ A2 c2 w2, (Builtin.append_ #[67, 67] 67 #[.slice A' el.length c', .slice (some ⟨b, 0, none⟩) 1 1]).run Tryz.prog w = .ok (.slice A2 (el.length + 1) c2) w2 ∧ Kd M W p d P P0 m (Plus S w w2) mb nf D bx B l (el ++ [z]) A c A2 c2 w2 := by
 obtain ⟨h1, h2, h3, h4, h5, hz, h6, h7, h8, h9, h10, h11⟩ := h
 have hr : Row w w.heap.size (some ⟨b, 0, none⟩) [.int .i64 z] := fun k v hv => by
  refine ⟨_, rfl, hx.lt, ?_⟩
  have e : (⟨b, 0, none⟩ : Addr).add k = ⟨b, k, none⟩ := by unfold Addr.add; split <;> simp_all
  rw [e, hx.cell]
  simpa using hv
 obtain ⟨A2, c2, w2, hrun, ho, hg, hloc⟩ := run_append_at 67 el_errs (c2 := 1) h7 hr (by intro v hv; rw [List.mem_singleton.1 hv]; rfl) (by rw [PagerSame.intsV_len]; simp [maxLen]; omega) (by rw [PagerSame.intsV_len]; simp; omega) hz
 rw [PagerSame.intsV_len] at hrun hloc hg
 have e1 : intsV el ++ [Value.int .i64 z] = intsV (el ++ [z]) := by simp [intsV]
 rw [e1] at ho
 have t : Turn (fun b => (Value.slice A' el.length c').ownBlock = some b) w w2 := Turn.ofGrown hg fun j hj _ => hj
 have hlt : ∀ b, (Value.slice A' el.length c').ownBlock = some b → B ≤ b ∧ b < w.heap.size := fun b hb => h7.block b (by rw [PagerSame.intsV_len]; exact hb)
 have elen : (el ++ [z]).length = el.length + 1 := by simp
 have hnew : ∀ b, (Value.slice A2 (el.length + 1) c2).ownBlock = some b → b < w2.heap.size := fun b hb => (ho.block b (by rw [PagerSame.intsV_len, elen]; exact hb)).2
 refine ⟨A2, c2, w2, hrun, pm_own X h1 t (fun b _ hb => ⟨h9 b hb, Nat.le_trans h5.1 (hlt b hb).1⟩), om_same h2 (t.block _ h2.lt fun q => by have := (hlt _ q).1; omega), (t.block _ h3.lt fun q => by have := (hlt _ q).1; omega).trans h3, ⟨Or.inl h4.1, Or.inl h4.2⟩, h5, Nat.le_trans hz t.size,
  h6.same fun k hk => t.block k (h6.block k hk).2 fun q => h10 k hk q, ho, fun b hb => Or.inl (h8 b hb), fun b hb => ?_, fun b hb => ?_, fun y hy => ?_⟩
 ·rw [elen] at hb
  have hb2 := hnew b hb
  rcases hloc with q | q
  ·rw [show ([Value.int .i64 z] : List Value).length = 1 from rfl] at q; rw [q] at hb; exact Or.inl (h9 b hb)
  ·rw [show ([Value.int .i64 z] : List Value).length = 1 from rfl] at q; rw [q] at hb; have := Option.some.inj hb; exact Or.inr ⟨by omega, hb2⟩
 ·rw [elen]
  rcases hloc with q | q
  ·rw [show ([Value.int .i64 z] : List Value).length = 1 from rfl] at q; rw [q]; exact h10 b hb
  ·rw [show ([Value.int .i64 z] : List Value).length = 1 from rfl] at q; rw [q]; intro e; have := Option.some.inj e; have := (h6.block b hb).2; omega
 ·refine ((row_lt (h11 y hy)).turn t fun b hb q => hb.1.2.2 q).wide fun b hb => ⟨Or.inl hb.1.1, hb.1.2.1, ?_⟩
  rw [elen]
  rcases hloc with q | q
  ·rw [show ([Value.int .i64 z] : List Value).length = 1 from rfl] at q; rw [q]; exact hb.1.2.2
  ·rw [show ([Value.int .i64 z] : List Value).length = 1 from rfl] at q; rw [q]; intro e; have := Option.some.inj e; omega
include X in
/-- Read, in one form -/
theorem pm_readK (h : PM M W w p d P m S) (hf : Fine P m) (no : Int) (hn : In no) : Calls Tryz.prog 25 #[.pointer (some ⟨p, 0, none⟩), .int .i64 no] w fun e w' => ∃ (N : Blks) (A : Option Addr) (c : Nat), PM M W w' p d P (m + 1000) (fun b => S b ∨ N b) ∧ Turn (Not S) w w' ∧ (∀ b, N b → w.heap.size ≤ b) ∧
  e = .returned (.tuple #[.agg #[.int .i64 (pgOf (rdP P no)).kind, .int .i64 (pgOf (rdP P no)).no, .int .i64 (pgOf (rdP P no)).epoch, .int .i64 (pgOf (rdP P no)).link, .slice A (pgOf (rdP P no)).cells.length c], .int .i64 (erOf (rdP P no))]) ∧ RowP w' N A (strs (pgOf (rdP P no)).cells) := by
 have hh := h
 obtain ⟨⟨F, h1, hF⟩, _⟩ := hh
 have hc := X.read no h1 hf hn
 refine hc.mono fun e w' ⟨N, g, hq⟩ => ?_
 obtain ⟨a, b⟩ := h.gone hF g
 obtain ⟨_, _, _, _, g4⟩ := g
 cases hr : rdP P no with
 | inl k => rw [hr] at hq; exact ⟨N, none, 0, a, b, fun b hb => (g4 b hb).1, hq, RowP.nil⟩
 | inr q => rw [hr] at hq; obtain ⟨A, c, e1, r⟩ := hq; exact ⟨N, A, c, a, b, fun b hb => (g4 b hb).1, e1, r⟩
end
end Go.Proofs.YtpidnkfcccboaaaGreat.PagerKept
