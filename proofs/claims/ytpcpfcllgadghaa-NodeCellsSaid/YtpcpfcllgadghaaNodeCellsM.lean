/- What NodeCells' walk wants: an append to an empty list, cells' sizes, a region's conditions. -/
import Derived.Test.YtpcpfcllgadghaaNodeWant
import Derived.Test.YtpcpfcllgadghaaNodeOfL
import Derived.Test.YtpcpfcllgadghaaInv4
namespace Go.Proofs.Ytpcpfcllgadghaa.NodeCellsM
open Go.RowKit Base NodePlain NodeRead NodeSlice NodeCheck NodeBox NodeEnt NodeCells NodeRd NodeOf2 NodeOf3 NodeStore NodeRooms
open _root_.Go.Proofs.Ytpcpfcllgadghaa.Inv

theorem append_e {P : Program} {w : World} {t e : TypeId} {bytes : Nat} (ty : TypeId) (hE : Elem P t e bytes) (g : Nat) {A2 : Option Addr} {c2 m : Nat} (hm : 0 < m) (hb : m * bytes ≤ 140737488355328) :
    (Builtin.append_ #[t, t] ty #[.slice (some ⟨g, 0, none⟩) 0 0, .slice A2 m c2]).run P w = (Builtin.append_ #[t, t] ty #[.slice none 0 0, .slice A2 m c2]).run P w := by
  obtain ⟨ht, i, z, hi, hz, hs, hby, hzs⟩ := hE
  have h1 : ¬ (m = 0) := by omega
  have hf : ∀ w : World, (Builtin.firstCells 1 0 (.slice (some ⟨g, 0, none⟩) 0 0)).run P w = .ok #[] w := fun w => by simp [Builtin.firstCells, loadCells, loadCellsFrom]
  have hf2 : ∀ w : World, (Builtin.firstCells 1 0 (.slice none 0 0)).run P w = .ok #[] w := fun w => by simp [Builtin.firstCells]
  have h2 : Builtin.nextslicecap m 0 = m := by simp [Builtin.nextslicecap]; try omega
  have h3 : ¬ (2 ^ 48 < m * bytes) := by omega
  simp [Builtin.append_, run_underlying ht, sizeOf, typeInfo, hi, Builtin.lenOf, h1, h2, hby, h3, hs, hf, hf2]
theorem append_0 {P : Program} {w : World} {t e : TypeId} {bytes : Nat} (ty : TypeId) (hE : Elem P t e bytes) (g : Nat) {A2 : Option Addr} {c2 : Nat} :
    (Builtin.append_ #[t, t] ty #[.slice (some ⟨g, 0, none⟩) 0 0, .slice A2 0 c2]).run P w = .ok (.slice (some ⟨g, 0, none⟩) 0 0) w := by
  obtain ⟨ht, i, z, hi, hz, hs, hby, hzs⟩ := hE
  have hf : ∀ w : World, (Builtin.firstCells 1 0 (.slice A2 0 c2)).run P w = .ok #[] w := fun w => by cases A2 <;> simp [Builtin.firstCells, loadCells, loadCellsFrom]
  simp [Builtin.append_, run_underlying ht, sizeOf, typeInfo, hi, Builtin.lenOf, hs, hf, storeCells]
/-- append([]T{}, xs...): what is old stays -/
theorem append_new {P : Program} {w : World} {t e : TypeId} {bytes : Nat} (ty : TypeId) (hE : Elem P t e bytes) (g : Nat) {A2 : Option Addr} {c2 m B : Nat} {news : List Value} (hm : m = news.length)
    (hr : Row w B A2 news) (h1 : ∀ u ∈ news, u.oneCell' = true) (h63 : m ≤ maxLen) (hb : m * bytes ≤ 140737488355328) :
    ∃ A' c' w', (Builtin.append_ #[t, t] ty #[.slice (some ⟨g, 0, none⟩) 0 0, .slice A2 m c2]).run P w = .ok (.slice A' m c') w' ∧ SlA news (.slice A' m c') w' ∧ Below w.heap.size w w' := by
  subst hm
  cases news with
  | nil => exact ⟨_, _, _, append_0 ty hE g, ⟨_, _, _, rfl, rfl, Nat.le_refl _, Row.nil⟩, Below.refl _ _⟩
  | cons u l =>
    rw [append_e ty hE g (by simp) hb]
    obtain ⟨A', c', w', hrun, ho, hg⟩ := run_append_row (P := P) ty hE (c2 := c2) (Own.nil w w.heap.size e) hr h1 (by simpa using h63) (by simpa using hb) (Nat.le_refl _)
    refine ⟨A', c', w', by simpa using hrun, ⟨A', _, c', rfl, rfl, ?_, by simpa using ho.row⟩, (Own.nil w w.heap.size e).below (Below.refl _ _) hg (Nat.le_refl _) (Nat.le_refl _)⟩
    have := ho.cap.1
    simpa using this
theorem cells_small {n : Nd} (h : Ok n) (hf : Few n) : (cells n).length ≤ 900 ∧ ∀ q ∈ cells n, q.size ≤ 1000 := by
  have hent : ∀ (ks bs : List ByteArray), (∀ q ∈ ks, q.size ≤ 100) → (∀ q ∈ bs, q.size ≤ 100) → ∀ q ∈ ents ks bs, q.size ≤ 1000 := by
    intro ks
    induction ks with
    | nil => intro bs _ _ q hq; simp [ents] at hq
    | cons a l ih =>
      intro bs h1 h2 q hq
      cases bs with
      | nil => simp [ents] at hq
      | cons b m =>
        have e : ents (a :: l) (b :: m) = ent a b :: ents l m := rfl
        rw [e] at hq
        rcases List.mem_cons.1 hq with rfl | hq
        · rw [ent_size]
          have := h1 a (by simp)
          have := h2 b (by simp)
          omega
        · exact ih m (fun q hq => h1 q (by simp [hq])) (fun q hq => h2 q (by simp [hq])) q hq
  have ht : ∀ q ∈ texts n, q.size = 4 := fun q hq => by
    obtain ⟨k, _, rfl⟩ := List.mem_map.1 hq
    rfl
  have hlen : ∀ ks bs : List ByteArray, (ents ks bs).length ≤ ks.length := fun ks bs => by unfold ents; rw [List.length_zipWith]; omega
  obtain ⟨s1, s2⟩ := Ok.short h
  unfold cells
  cases n.leaf with
  | true =>
    simp only [if_true]
    exact ⟨by have := hlen n.keys n.vals; have := hf.1; omega, hent _ _ s1 s2⟩
  | false =>
    simp only [Bool.false_eq_true, if_false]
    refine ⟨?_, fun q hq => ?_⟩
    · rw [List.length_append, List.length_take]
      have := hlen n.keys ((texts n).drop 1)
      have := hf.1
      omega
    · rcases List.mem_append.1 hq with hq | hq
      · have := ht q (List.mem_of_mem_take hq)
        omega
      · exact hent _ _ s1 (fun q hq => by have := ht q (List.mem_of_mem_drop hq); omega) q hq
/-- a new empty list -/
def Emp (v : Value) (_w : World) : Prop := ∃ g, v = .slice (some ⟨g, 0, none⟩) 0 0
/-- what Of gives -/
def Tn (n : Nd) (v : Value) (w : World) : Prop := ∃ h : Hd, v = .tuple #[nv n h, .int .i64 0] ∧ Lay w n h
/-- what is old stays, or a node's block is written -/
def Rl (w w' : World) : Prop := Below w.heap.size w w' ∨ ∃ g t cs a b c d, At w g t cs ∧ Cs cs ∧ w' = w4 w g a b c d
theorem Rl.row {w w' : World} (h : Rl w w') {A : Option Addr} {vs : List Value} (hr : Row w w.heap.size A vs) (hp : ∀ v ∈ vs, Plain v) : Row w' w'.heap.size A vs := by
  rcases h with h | ⟨g, t, cs, a, b, c, d, h1, h2, rfl⟩
  · exact hr.belowSize h
  · rw [size4]; exact row_at4 hr h1 h2 hp
theorem Rl.lay {w w' : World} (h : Rl w w') {n : Nd} {j : Hd} (l : Lay w n j) : Lay w' n j :=
  ⟨h.row l.k (plain_s _), h.row l.v (plain_s _), h.row l.d (plain_i _), l.kc, l.vc, l.dc⟩
theorem Rl.sla {w w' : World} (h : Rl w w') {l : List ByteArray} {v : Value} (hs : SlA (strs l) v w) : SlA (strs l) v w' := by
  obtain ⟨A, m, c, h1, h2, h3, h4⟩ := hs
  exact ⟨A, m, c, h1, h2, h3, h.row h4 (plain_s _)⟩
theorem Rl.tn {w w' : World} (h : Rl w w') {n : Nd} {v : Value} (hs : Tn n v w) : Tn n v w' := by
  obtain ⟨j, h1, h2⟩ := hs
  exact ⟨j, h1, h.lay h2⟩
theorem Rl.nv {w w' : World} (h : Rl w w') {n : Nd} {v : Value} (hs : Nv n v w) : Nv n v w' := by
  obtain ⟨j, h1, h2⟩ := hs
  exact ⟨j, h1, h.lay h2⟩
abbrev zr : Array Value := #[.bool false, .slice none 0 0, .slice none 0 0, .slice none 0 0]
/-- the node's block: made by operation 9, written by operation 10 -/
def Blk9 (lo : Nat) (n : Nd) (q : Nat → Bool) (v : Value) (w : World) : Prop :=
  q 9 = true → ∃ g, v = .pointer (some ⟨g, 0, none⟩) ∧ lo ≤ g ∧ (q 10 = false → At w g 25 zr) ∧ (q 10 = true → ∃ h : Hd, At w g 25 #[.bool n.leaf, .slice h.K n.keys.length h.kc, .slice h.V n.vals.length h.vc, .slice h.D n.kids.length h.dc] ∧ Lay w n h)
def J9 (W : World) (n : Nd) (h : Hd) (A : Option Addr) (m c : Nat) (q : Nat → Bool) (a : Act) (w : World) : Prop :=
  Begun W n h w ∧ SlA (strs (cells n)) (.slice A m c) w ∧ Blk9 (W.heap.size + 1) n q (a.tmps.getD 6 undef) w
section
variable {W : World} {n : Nd} {h : Hd} {A : Option Addr} {m c : Nat} {q : Nat → Bool} {a : Act} {w w' : World}
theorem J9.quiet (hJ : J9 W n h A m c q a w) (b : Below w.heap.size w w') {i d : Nat} {v : Value} (h9 : Nat.beq 9 i = false) (h10 : Nat.beq 10 i = false) (hd : d ≠ 6) : J9 W n h A m c (Inv4.upd q i) (a.put (some d) v) w' := by
  refine ⟨hJ.1.below b, hJ.2.1.below b, ?_⟩
  rw [slot_put_ne hd]
  intro hq
  have e9 : Inv4.upd q i 9 = q 9 := by unfold Inv4.upd; rw [h9]; rfl
  have e10 : Inv4.upd q i 10 = q 10 := by unfold Inv4.upd; rw [h10]; rfl
  rw [e9] at hq
  rw [e10]
  obtain ⟨g, h1, h2, h3, h4⟩ := hJ.2.2 hq
  refine ⟨g, h1, h2, fun hq => (h3 hq).below b, fun hq => ?_⟩
  obtain ⟨j, k1, k2⟩ := h4 hq
  exact ⟨j, k1.below b, k2.below b⟩
theorem J9.nine (hJ : J9 W n h A m c q a w) (hs : 6 < a.tmps.size) (h10 : q 10 = false) : J9 W n h A m c (Inv4.upd q 9) (a.put (some 6) (.pointer (some ⟨w.heap.size, 0, none⟩))) (w.alloc (.cells zr 25)) := by
  refine ⟨hJ.1.below (al _ _), hJ.2.1.below (al _ _), ?_⟩
  rw [slot_put hs]
  refine fun _ => ⟨_, rfl, hJ.1.1.lt, fun _ => at_new _ _ _, fun hq => ?_⟩
  have e10 : Inv4.upd q 9 10 = q 10 := rfl
  rw [e10, h10] at hq
  cases hq
theorem J9.ten (hJ : J9 W n h A m c q a w) (h9 : q 9 = true) {g : Nat} (hg : a.tmps.getD 6 undef = .pointer (some ⟨g, 0, none⟩)) (hat : At w g 25 zr) {j : Hd} (lj : Lay w n j) (v : Value) :
    J9 W n h A m c (Inv4.upd q 10) (a.put none v) (w4 w g (.bool n.leaf) (.slice j.K n.keys.length j.kc) (.slice j.V n.vals.length j.vc) (.slice j.D n.kids.length j.dc)) := by
  obtain ⟨g', h1, h2, _, _⟩ := hJ.2.2 h9
  rw [hg] at h1
  injection h1 with h1
  injection h1 with h1
  injection h1 with h1
  subst h1
  have hR : Rl w (w4 w g (.bool n.leaf) (.slice j.K n.keys.length j.kc) (.slice j.V n.vals.length j.vc) (.slice j.D n.kids.length j.dc)) := .inr ⟨g, _, _, _, _, _, _, hat, cs_z, rfl⟩
  refine ⟨⟨hJ.1.1.w4 (by omega), hR.lay hJ.1.2.1, below4 hJ.1.2.2 (by omega) _ _ _ _⟩, hR.sla hJ.2.1, ?_⟩
  intro _
  refine ⟨g, hg, h2, fun hq => (by cases hq), fun _ => ⟨j, set4 hat _ _ _ _, hR.lay lj⟩⟩
theorem J9.block (hJ : J9 W n h A m c q a w) (h9 : q 9 = true) (h10 : q 10 = false) : ∃ g, a.tmps.getD 6 undef = .pointer (some ⟨g, 0, none⟩) ∧ At w g 25 zr := by
  obtain ⟨g, h1, _, h3, _⟩ := hJ.2.2 h9
  exact ⟨g, h1, h3 h10⟩
end
end Go.Proofs.Ytpcpfcllgadghaa.NodeCellsM
