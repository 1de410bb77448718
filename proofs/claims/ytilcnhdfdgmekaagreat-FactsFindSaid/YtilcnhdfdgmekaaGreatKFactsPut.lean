/- FactsMem, FactsHas, FactsPut. -/
import Derived.Test.YtilcnhdfdgmekaaGreatKFactsPlain
import Derived.Test.YtilcnhdfdgmekaaGreatKFrames
import Derived.Test.YtilcnhdfdgmekaaGreatKInvT
import Derived.Test.YtilcnhdfdgmekaaGreatKTupleKeyC
import Derived.Test.YtilcnhdfdgmekaaGreatKTurnB
import Derived.DeepKeys5
namespace Go.Proofs.YtilcnhdfdgmekaaGreat.FactsMem
open Go.RowKit Base KeyPlain TuplePlain TupleRef TupleSpec FMap FactsPlain
open Go.Maps (Keyed)

theorem key_us : Keyed Tryz.prog 30 := Keyed.of_law (deep_law_gate (by kernel_rfl) (by decide +kernel) (by decide +kernel) (by kernel_rfl) (by kernel_rfl))
theorem key_tp : Keyed Tryz.prog 32 := Keyed.of_law (deep_law_gate (by kernel_rfl) (by decide +kernel) (by decide +kernel) (by kernel_rfl) (by kernel_rfl))
theorem pos_two {a b : Nat} (h : a < b) (h2 : 2 ≤ a) : ∃ n, b = n + 1 + 1 := ⟨b - 2, by omega⟩
theorem isKey_us (u : Us) (h : UsF u) : IsKey Tryz.prog 30 (.agg (uc u)) := by
  obtain ⟨h1, h2, h3⟩ := h
  have e1 : Tryz.prog.keyType 30 = true := by kernel_rfl
  have e2 : Tryz.prog.cellsOf 30 = 3 := by kernel_rfl
  have e3 : Tryz.prog.cellsOf 9 = 1 := by kernel_rfl
  have hlt : 30 < Tryz.prog.types.size := by decide +kernel
  obtain ⟨n, e4⟩ := pos_two hlt (by decide)
  clear hlt
  have m1 : u.k.size ≤ maxLen := by unfold maxLen; omega
  have m2 : u.i.size ≤ maxLen := by unfold maxLen; omega
  have m3 : u.r.size ≤ maxLen := by unfold maxLen; omega
  unfold IsKey keyOf
  rw [Tryz.underlying30]
  simp only [e1, Value.formed, Tryz.underlying30, uc, e4]
  unfold Program.keyLits
  simp [Tryz.underlying30, e2, e3, Program.keyLits, Tryz.underlying9, Value.cells, m1, m2, m3]
theorem isKey_tp (t : Tp) (h : TpF t) : IsKey Tryz.prog 32 (.agg (tc t)) := by
  obtain ⟨h1, h2, h3, h4, h5, h6⟩ := h
  have e1 : Tryz.prog.keyType 32 = true := by kernel_rfl
  have e2 : Tryz.prog.cellsOf 30 = 3 := by kernel_rfl
  have e3 : Tryz.prog.cellsOf 9 = 1 := by kernel_rfl
  have e5 : Tryz.prog.cellsOf 32 = 6 := by kernel_rfl
  have hlt : 32 < Tryz.prog.types.size := by decide +kernel
  obtain ⟨n, e4⟩ := pos_two hlt (by decide)
  clear hlt
  have m1 : t.k.size ≤ maxLen := by unfold maxLen; omega
  have m2 : t.i.size ≤ maxLen := by unfold maxLen; omega
  have m3 : t.r.size ≤ maxLen := by unfold maxLen; omega
  have m4 : t.u.k.size ≤ maxLen := by unfold maxLen; omega
  have m5 : t.u.i.size ≤ maxLen := by unfold maxLen; omega
  have m6 : t.u.r.size ≤ maxLen := by unfold maxLen; omega
  unfold IsKey keyOf
  rw [Tryz.underlying32]
  simp only [e1, Value.formed, Tryz.underlying32, tc, e4]
  unfold Program.keyLits
  simp [Tryz.underlying32, e2, e3, e5, Program.keyLits, Tryz.underlying9, Tryz.underlying30, Value.cells, m1, m2, m3, m4, m5, m6]
  rw [if_pos (by decide +kernel)]
  simp
theorem uc_inj {u v : Us} (h : uc u = uc v) : u = v := by
  cases u; cases v
  simp only [uc, Array.mk.injEq, List.cons.injEq, Value.string.injEq, and_true] at h
  obtain ⟨rfl, rfl, rfl⟩ := h
  rfl
theorem tc_inj {t s : Tp} (h : tc t = tc s) : t = s := by
  obtain ⟨a, b, c, ⟨d, e, f⟩⟩ := t
  obtain ⟨a', b', c', ⟨d', e', f'⟩⟩ := s
  simp only [tc, Array.mk.injEq, List.cons.injEq, Value.string.injEq, and_true] at h
  obtain ⟨rfl, rfl, rfl, rfl, rfl, rfl⟩ := h
  rfl
/-- tuples with one relation to one object, and the block of their map -/
structure Grp where
  u : Us
  b : Nat
  ts : List Tp
def alls (G : List Grp) : List Tp := G.flatMap (·.ts)
def topL (G : List Grp) : List (Value × Value) := G.map fun g => (.agg (uc g.u), .map (some g.b))
def tpsL (ts : List Tp) : List (Value × Value) := ts.map fun t => (.agg (tc t), .agg #[])
theorem mem_alls {G : List Grp} {t : Tp} : t ∈ alls G ↔ ∃ g ∈ G, t ∈ g.ts := by simp [alls]
theorem mem_tpsL {ts : List Tp} {t : Tp} : (Value.agg (tc t)) ∈ (tpsL ts).map (·.1) ↔ t ∈ ts := by
  unfold tpsL
  rw [List.map_map]
  constructor
  · intro h
    obtain ⟨s, hs, e⟩ := List.mem_map.1 h
    rw [← tc_inj (by injection e : tc s = tc t)]
    exact hs
  · exact fun h => List.mem_map.2 ⟨t, h, rfl⟩
theorem mem_topL {G : List Grp} {u : Us} : (Value.agg (uc u)) ∈ (topL G).map (·.1) ↔ ∃ g ∈ G, g.u = u := by
  unfold topL
  rw [List.map_map]
  constructor
  · intro h
    obtain ⟨g, hg, e⟩ := List.mem_map.1 h
    exact ⟨g, hg, uc_inj (by injection e)⟩
  · rintro ⟨g, hg, rfl⟩
    exact List.mem_map.2 ⟨g, hg, rfl⟩
/-- block f is a set: its maps lie from lo on -/
structure Fx (lo : Nat) (w : World) (f gm : Nat) (G : List Grp) : Prop where
  box : w.heap[f]? = some (.cells #[.map (some gm)] 64 (0, 0))
  top : Mp Tryz.prog 30 w gm (topL G)
  each : ∀ g ∈ G, Mp Tryz.prog 32 w g.b (tpsL g.ts)
  obj : ∀ g ∈ G, ∀ t ∈ g.ts, t.obj = g.u
  oks : ∀ t ∈ alls G, t.ok = true
  apart : (G.map (·.b)).Nodup
  ne : ∀ g ∈ G, g.b ≠ gm
  low : lo ≤ f ∧ lo ≤ gm ∧ ∀ g ∈ G, lo ≤ g.b
/-- only maps from lo on, and what is new, have turned -/
structure Wn (lo : Nat) (w w' : World) : Prop where
  os : w'.os = w.os
  tape : w'.tape = w.tape
  output : w'.output = w.output
  size : w.heap.size ≤ w'.heap.size
  block : ∀ k, k < w.heap.size → (k < lo ∨ ∀ es c, w.heap[k]? ≠ some (.map es c)) → w'.heap[k]? = w.heap[k]?
section
variable {lo : Nat} {w w' a b c : World} {f gm : Nat} {G : List Grp}
theorem Wn.ofBelow (h : Below w.heap.size w w') : Wn lo w w' := ⟨h.os, h.tape, h.output, h.size, fun k hk _ => h.block k hk⟩
theorem Wn.refl (lo : Nat) (w : World) : Wn lo w w := .ofBelow (Below.refl _ _)
theorem Wn.trans (h : Wn lo a b) (k : Wn lo b c) : Wn lo a c :=
  ⟨k.os.trans h.os, k.tape.trans h.tape, k.output.trans h.output, Nat.le_trans h.size k.size, fun i hi hn => by
    have e := h.block i hi hn
    rw [k.block i (Nat.lt_of_lt_of_le hi h.size) (hn.imp id fun q es c => by rw [e]; exact q es c), e]⟩
theorem Wn.below (h : Wn lo w w') (hl : lo ≤ w.heap.size) : Below lo w w' := ⟨h.os, h.tape, h.output, h.size, fun k hk => h.block k (by omega) (.inl hk)⟩
theorem Wn.cells (h : Wn lo w w') {k : Nat} {cs : Array Value} {t : TypeId} {fr : Nat × Nat} (hk : w.heap[k]? = some (.cells cs t fr)) : w'.heap[k]? = some (.cells cs t fr) :=
  (h.block k ((Array.getElem?_eq_some_iff.1 hk).1) (.inr fun es c e => by rw [hk] at e; cases e)).trans hk
theorem Wn.set {b : Nat} {l : List (Value × Value)} {k : TypeId} (h : Mp Tryz.prog k w b l) (hb : lo ≤ b) (o : Obj) : Wn lo w (Go.ChangeMaps.setBlock w b o) :=
  ⟨rfl, rfl, rfl, by simp [Go.ChangeMaps.setBlock], fun i _ hn => by
    have hne : i ≠ b := by
      rintro rfl
      rcases hn with hn | hn
      · omega
      · obtain ⟨es, c, he, _⟩ := h.ex
        exact hn es c he
    exact (set_only w b o).block i (by assumption) (fun e => hne (Option.some.inj e))⟩
theorem Fx.same (h : Fx lo w f gm G) (hb : ∀ k, k = f ∨ k = gm ∨ (∃ g ∈ G, k = g.b) → w'.heap[k]? = w.heap[k]?) : Fx lo w' f gm G :=
  ⟨(hb f (.inl rfl)).trans h.box, h.top.same (hb gm (.inr (.inl rfl))), fun g hg => (h.each g hg).same (hb g.b (.inr (.inr ⟨g, hg, rfl⟩))), h.obj, h.oks, h.apart, h.ne, h.low⟩
theorem Fx.lt (h : Fx lo w f gm G) : f < w.heap.size ∧ gm < w.heap.size ∧ ∀ g ∈ G, g.b < w.heap.size := ⟨(Array.getElem?_eq_some_iff.1 h.box).1, h.top.lt, fun g hg => (h.each g hg).lt⟩
theorem Fx.below (h : Fx lo w f gm G) (hb : Below w.heap.size w w') : Fx lo w' f gm G := h.same fun k hk => hb.block k (by
  obtain ⟨h1, h2, h3⟩ := h.lt
  rcases hk with rfl | rfl | ⟨g, hg, rfl⟩
  · exact h1
  · exact h2
  · exact h3 g hg)
/-- another set, whose maps lie below -/
theorem Fx.wn {lo2 : Nat} (h : Fx lo w f gm G) (hw : Wn lo2 w w') (hl : ∀ k, k = gm ∨ (∃ g ∈ G, k = g.b) → k < lo2) : Fx lo w' f gm G := h.same fun k hk => by
  obtain ⟨h1, h2, h3⟩ := h.lt
  rcases hk with rfl | rfl | ⟨g, hg, rfl⟩
  · exact (hw.cells h.box).trans h.box.symm
  · exact hw.block _ h2 (.inl (hl _ (.inl rfl)))
  · exact hw.block _ (h3 g hg) (.inl (hl _ (.inr ⟨g, hg, rfl⟩)))
theorem nodup_of_map {α β : Type} {f : α → β} {l : List α} (h : (l.map f).Nodup) : l.Nodup := (List.pairwise_map.1 h).imp fun hne e => hne (by rw [e])
theorem ok_fine {t : Tp} (h : t.ok = true) : TpF t := by
  simp only [Tp.ok, Us.ok, Bool.and_eq_true] at h
  obtain ⟨⟨⟨a, b⟩, c⟩, ⟨d, e⟩, f⟩ := h
  have a := (name_len a).2; have b := (id_len b).2; have c := (name_len c).2
  have d := (name_len d).2; have e := (id_len e).2; have f := rel_len f
  simp only [bl_size] at a b c d e
  exact ⟨by omega, by omega, by omega, by omega, by omega, by omega⟩
theorem Fx.once (h : Fx lo w f gm G) : (alls G).Nodup := by
  have hu : (G.map (·.u)).Nodup := by
    have := h.top.once
    unfold topL at this
    rw [List.map_map] at this
    exact nodup_of_map (f := fun u => Value.agg (uc u)) (by rw [List.map_map]; exact this)
  have hi : ∀ g ∈ G, g.ts.Nodup := fun g hg => by
    have := (h.each g hg).once
    unfold tpsL at this
    rw [List.map_map] at this
    exact nodup_of_map (f := fun t => Value.agg (tc t)) this
  have ho := h.obj
  clear h
  unfold alls
  induction G with
  | nil => simp
  | cons g G ih =>
    rw [List.map_cons, List.nodup_cons] at hu
    rw [List.flatMap_cons, List.nodup_append]
    refine ⟨hi g (by simp), ih hu.2 (fun g hg => hi g (by simp [hg])) (fun g hg => ho g (by simp [hg])), ?_⟩
    intro x hx y hy
    obtain ⟨g', hg', hy'⟩ := List.mem_flatMap.1 hy
    rintro rfl
    have e1 := ho g (by simp) x hx
    have e2 := ho g' (by simp [hg']) x hy'
    exact hu.1 (List.mem_map.2 ⟨g', hg', by rw [← e2, e1]⟩)
/-- the map of those with one relation to one object; none, if there are none -/
theorem Fx.grp (h : Fx lo w f gm G) (u : Us) : (∃ g ∈ G, g.u = u ∧ ∀ t, t ∈ alls G → t.obj = u → t ∈ g.ts) ∨ ((∀ g ∈ G, g.u ≠ u) ∧ ∀ t ∈ alls G, t.obj ≠ u) := by
  by_cases hg : ∃ g ∈ G, g.u = u
  · obtain ⟨g, hg, rfl⟩ := hg
    refine .inl ⟨g, hg, rfl, fun t ht hu => ?_⟩
    obtain ⟨g', hg', ht'⟩ := mem_alls.1 ht
    have e : g'.u = g.u := (h.obj g' hg' t ht').symm.trans hu
    have h1 := eq_of_key h.top.once (x := .agg (uc g.u)) (v := .map (some g.b)) (v' := .map (some g'.b)) (List.mem_map.2 ⟨g, hg, rfl⟩) (List.mem_map.2 ⟨g', hg', by rw [e]⟩)
    have h2 : g.b = g'.b := by injection h1 with h1; injection h1
    have h3 := h.each g hg
    have h4 := h.each g' hg'
    rw [h2] at h3
    have : g = g' := by
      have hn := h.apart
      clear h3 h4 h
      induction G with
      | nil => cases hg
      | cons x G ih =>
        rw [List.map_cons, List.nodup_cons] at hn
        rcases List.mem_cons.1 hg with rfl | hg1 <;> rcases List.mem_cons.1 hg' with rfl | hg2
        · rfl
        · exact absurd (List.mem_map.2 ⟨g', hg2, h2.symm⟩) hn.1
        · exact absurd (List.mem_map.2 ⟨g, hg1, h2⟩) hn.1
        · exact ih hg1 (mem_alls.2 ⟨g', hg2, ht'⟩) hg2 hn.2
    rw [this]
    exact ht'
  · refine .inr ⟨fun g hg' e => hg ⟨g, hg', e⟩, fun t ht e => ?_⟩
    obtain ⟨g', hg', ht'⟩ := mem_alls.1 ht
    exact hg ⟨g', hg', (h.obj g' hg' t ht').symm.trans e⟩
end
end Go.Proofs.YtilcnhdfdgmekaaGreat.FactsMem
namespace Go.Proofs.YtilcnhdfdgmekaaGreat.FactsHas
open Go.RowKit Base KeyPlain TuplePlain TupleRef TupleSpec TupleCut FMap FactsPlain FactsMem

/-- a block made since -/
def FreshV (B : Nat) (v : Value) (w : World) : Prop := ∃ b : Nat, v = .pointer (some ⟨b, 0, none⟩) ∧ B ≤ b ∧ b < w.heap.size
theorem FreshV.below {B : Nat} {v : Value} {w w' : World} (h : FreshV B v w) (hb : Below w.heap.size w w') : FreshV B v w' := by
  obtain ⟨b, h1, h2, h3⟩ := h
  exact ⟨b, h1, h2, Nat.lt_of_lt_of_le h3 hb.size⟩
set_option maxHeartbeats 3200000 in
theorem object_any (t : Tp) (w : World) :
    Calls Tryz.prog 32 #[.agg (tc t)] w fun e w' => e = .returned (.agg (uc t.obj)) ∧ Below w.heap.size w w' := by
  unfold tc uc Tp.obj
  go_enter Tryz.func32, Tryz.ntmps32
  go_wp2_with fail
  refine bodyPost_ret (results_cell_row rfl _ _ (w.heap.size + 1) 30 _ (0, 0) _ rfl (new2 w _ _) Tryz.underlying30 rfl (by kernel_rfl)) rfl ?_
  exact ⟨rfl, al2 _ _ _⟩
theorem under_top : Tryz.prog.underlying 62 = some (.map 30 68) := Tryz.underlying62
theorem under_tps : Tryz.prog.underlying 68 = some (.map 32 66) := Tryz.underlying68
theorem zero_tps (w : World) : (zeroValue 68).run Tryz.prog w = .ok (.map none) w := by kernel_rfl
theorem zero_unit (w : World) : (zeroValue 66).run Tryz.prog w = .ok (.agg #[]) w := by kernel_rfl
/-- the two questions, as long as what there was is there -/
theorem look_any {lo : Nat} {w : World} {fb gm : Nat} {G : List Grp} (h : Fx lo w fb gm G) (t : Tp) (ht : TpF t) :
    ∃ (mv : Value) (hb : Bool), (∀ w', Below w.heap.size w w' → (Instr.lookup 62 (.map (some gm)) (.agg (uc t.obj)) false).run Tryz.prog w' = .ok mv w') ∧
      (∀ w', Below w.heap.size w w' → (Instr.lookup 68 mv (.agg (tc t)) true).run Tryz.prog w' = .ok (.tuple #[.agg #[], .bool hb]) w') ∧ hb = decide (t ∈ alls G) := by
  have ho : UsF t.obj := ⟨ht.1, ht.2.1, ht.2.2.1⟩
  rcases h.grp t.obj with ⟨g, hg, hu, hall⟩ | ⟨hno, hall⟩
  · by_cases hm : t ∈ g.ts
    · refine ⟨.map (some g.b), true, fun w' hw => ?_, fun w' hw => ?_, (decide_eq_true (mem_alls.2 ⟨g, hg, hm⟩)).symm⟩
      · exact (h.below hw).top.look key_us under_top (List.mem_map.2 ⟨g, hg, by rw [hu]⟩) false
      · exact ((h.below hw).each g hg).look key_tp under_tps (List.mem_map.2 ⟨t, hm, rfl⟩) true
    · refine ⟨.map (some g.b), false, fun w' hw => ?_, fun w' hw => ?_, (decide_eq_false fun q => hm (hall t q rfl)).symm⟩
      · exact (h.below hw).top.look key_us under_top (List.mem_map.2 ⟨g, hg, by rw [hu]⟩) false
      · exact ((h.below hw).each g hg).miss key_tp under_tps (zero_unit w') (isKey_tp t ht) (fun q => hm (mem_tpsL.1 q)) true
  · refine ⟨.map none, false, fun w' hw => ?_, fun w' hw => ?_, (decide_eq_false fun q => hall t q rfl).symm⟩
    · exact (h.below hw).top.miss key_us under_top (zero_tps w') (isKey_us _ ho) (fun q => by obtain ⟨g, hg, e⟩ := mem_topL.1 q; exact hno g hg e) false
    · exact look_nil key_tp under_tps (zero_unit w') (isKey_tp t ht) true
set_option maxRecDepth 100000 in
set_option maxHeartbeats 12800000 in
theorem has_any {lo : Nat} {w : World} {fb gm : Nat} {G : List Grp} (h : Fx lo w fb gm G) (t : Tp) (ht : TpF t) :
    Calls Tryz.prog 14 #[.pointer (some ⟨fb, 0, none⟩), .agg (tc t)] w fun e w' => e = .returned (.bool (decide (t ∈ alls G))) ∧ Below w.heap.size w w' := by
  obtain ⟨mv, hb, hl1, hl2, hm⟩ := look_any h t ht
  obtain ⟨w1, hw1⟩ : ∃ v, v = w.alloc (.cells (tc t) 32) := ⟨_, rfl⟩
  obtain ⟨b, hbe⟩ : ∃ v, v = w.heap.size := ⟨_, rfl⟩
  have b1 : Below w.heap.size w w1 := by rw [hw1]; exact al _ _
  have a1 : w1.heap[b]? = some (.cells (tc t) 32 (0, 0)) := by rw [hw1, hbe]; exact heap_alloc_new w _
  have hb1 : b < w1.heap.size := by rw [hw1, hbe]; simp
  have HC := Lib.hid (fun (w' : World) (hw' : Below w1.heap.size w1 w') => six_at ((hw'.block b hb1).trans a1))
  have HF := Lib.hid (fun (w' : World) (hw' : Below w1.heap.size w1 w') => show w'.cell? ⟨fb, 0, none⟩ = some (.map (some gm)) by simp [World.cell?, (h.below (Below.step b1 hw')).box])
  have HL1 := Lib.hid (fun (w' : World) (hw' : Below w1.heap.size w1 w') => hl1 w' (Below.step b1 hw'))
  have HL2 := Lib.hid (fun (w' : World) (hw' : Below w1.heap.size w1 w') => hl2 w' (Below.step b1 hw'))
  have HM := Lib.hid hm
  have HB1 := Lib.hid b1
  have HW1 := Lib.hid hw1
  have HBE := Lib.hid hbe
  clear hl1 hl2 hm b1 a1 hb1 hw1 hbe h ht
  unfold tc uc Tp.obj at *
  go_enter Tryz.func14, Tryz.ntmps14
  go_upto_region 1 with fail
  rw [← HW1.out, ← HBE.out]
  have hJ0 : Below w1.heap.size w1 (World.drew w1) := (Below.refl _ _).drew
  refine wp_region_any (by kernel_rfl) ?_
  change wpAny _ _ _ _ _ _ _ (World.drew _)
  refine Inv.inv_any (fun (i : Nat) (v : Value) (w : World) => match i with | 0 => v = .pointer (some ⟨fb, 0, none⟩) | 1 => v = .pointer (some ⟨fb, 0, none⟩) | 2 => v = .pointer (some ⟨fb, 0, none⟩) | 3 => v = .map (some gm) | 4 => v = .agg #[.string t.k, .string t.i, .string t.r, .string t.u.k, .string t.u.i, .string t.u.r] | 5 => v = .agg #[.string t.k, .string t.i, .string t.r] | 6 => v = mv | 7 => v = .agg #[.string t.k, .string t.i, .string t.r, .string t.u.k, .string t.u.i, .string t.u.r] | 8 => v = .tuple #[.agg #[], .bool hb] | 9 => v = .tuple #[.agg #[], .bool hb] | 10 => v = .agg #[] | 11 => v = .bool hb | 12 => FreshV w1.heap.size v w | 14 => v = .bool hb | _ => True) (fun w' : World => Below w1.heap.size w1 w') _ 15 20 rfl rfl rfl (by kernel_rfl) (by kernel_rfl) hJ0 ?_ ?_ ?_ ?_
  · intro j v w w' h hb
    match j, h with
    | 0, h => exact h
    | 1, h => exact h
    | 2, h => exact h
    | 3, h => exact h
    | 4, h => exact h
    | 5, h => exact h
    | 6, h => exact h
    | 7, h => exact h
    | 8, h => exact h
    | 9, h => exact h
    | 10, h => exact h
    | 11, h => exact h
    | 12, h => exact FreshV.below h hb
    | 14, h => exact h
    | 13, _ => exact trivial
    | (_ + 15), _ => exact trivial
  · skip
    refine Inv.from_cons _ _ _ _ rfl (fun _ a w hJ hF F K hK => ?_) ?_
    · have hz : a.tmps.size = 20 := hF.size
      have e0 : a.tmps[0]? = some (.pointer (some ⟨fb, 0, none⟩)) := Inv2.some_slot (by rw [hz]; exact Nat.le_of_ble_eq_true rfl) (hF.slot 0 (by kernel_rfl))
      clear F hF hz
      go_simp
      exact hK (.pointer (some ⟨fb, 0, none⟩)) _ hJ (Below.refl _ _) rfl
    refine Inv.from_cons _ _ _ _ rfl (fun _ a w hJ hF F K hK => ?_) ?_
    · have hz : a.tmps.size = 20 := hF.size
      have e8 : a.tmps[8]? = some (.pointer (some ⟨fb, 0, none⟩)) := Inv2.some_slot (by rw [hz]; exact Nat.le_of_ble_eq_true rfl) (F 0 (by kernel_rfl) 8 rfl)
      clear F hF hz
      go_simp
      exact hK (.pointer (some ⟨fb, 0, none⟩)) _ hJ (Below.refl _ _) rfl
    refine Inv.from_cons _ _ _ _ rfl (fun _ a w hJ hF F K hK => ?_) ?_
    · have hz : a.tmps.size = 20 := hF.size
      have e9 : a.tmps[9]? = some (.pointer (some ⟨fb, 0, none⟩)) := Inv2.some_slot (by rw [hz]; exact Nat.le_of_ble_eq_true rfl) (F 1 (by kernel_rfl) 9 rfl)
      clear F hF hz
      go_simp
      exact hK (.pointer (some ⟨fb, 0, none⟩)) _ hJ (Below.refl _ _) rfl
    refine Inv.from_cons _ _ _ _ rfl (fun _ a w hJ hF F K hK => ?_) ?_
    · have hz : a.tmps.size = 20 := hF.size
      have e10 : a.tmps[10]? = some (.pointer (some ⟨fb, 0, none⟩)) := Inv2.some_slot (by rw [hz]; exact Nat.le_of_ble_eq_true rfl) (F 2 (by kernel_rfl) 10 rfl)
      clear F hF hz
      have hh := HF.out _ hJ
      go_simp
      exact hK (.map (some gm)) _ hJ (Below.refl _ _) rfl
    refine Inv.from_cons _ _ _ _ rfl (fun _ a w hJ hF F K hK => ?_) ?_
    · have hz : a.tmps.size = 20 := hF.size
      have e3 : a.tmps[3]? = some (.pointer (some ⟨b, 0, none⟩)) := Inv2.some_slot (by rw [hz]; exact Nat.le_of_ble_eq_true rfl) (hF.slot 3 (by kernel_rfl))
      clear F hF hz
      obtain ⟨d0, d1, d2, d3, d4, d5⟩ := HC.out _ hJ
      go_simp
      exact hK (.agg #[.string t.k, .string t.i, .string t.r, .string t.u.k, .string t.u.i, .string t.u.r]) _ hJ (Below.refl _ _) rfl
    refine Inv.from_cons _ _ _ _ rfl (fun _ a w hJ hF F K hK => ?_) ?_
    · have hz : a.tmps.size = 20 := hF.size
      have e12 : a.tmps[12]? = some (.agg #[.string t.k, .string t.i, .string t.r, .string t.u.k, .string t.u.i, .string t.u.r]) := Inv2.some_slot (by rw [hz]; exact Nat.le_of_ble_eq_true rfl) (F 4 (by kernel_rfl) 12 rfl)
      clear F hF hz
      have hh := object_any t w
      unfold tc uc Tp.obj at hh
      go_simp
      (with_reducible refine hh.mono ?_)
      rintro e' w' ⟨rfl, hb'⟩
      go_simp
      exact hK (.agg #[.string t.k, .string t.i, .string t.r]) _ (Below.step hJ hb') hb' rfl
    refine Inv.from_cons _ _ _ _ rfl (fun _ a w hJ hF F K hK => ?_) ?_
    · have hz : a.tmps.size = 20 := hF.size
      have e11 : a.tmps[11]? = some (.map (some gm)) := Inv2.some_slot (by rw [hz]; exact Nat.le_of_ble_eq_true rfl) (F 3 (by kernel_rfl) 11 rfl)
      have e13 : a.tmps[13]? = some (.agg #[.string t.k, .string t.i, .string t.r]) := Inv2.some_slot (by rw [hz]; exact Nat.le_of_ble_eq_true rfl) (F 5 (by kernel_rfl) 13 rfl)
      clear F hF hz
      have hh := HL1.out _ hJ
      go_simp
      exact hK mv _ hJ (Below.refl _ _) rfl
    refine Inv.from_cons _ _ _ _ rfl (fun _ a w hJ hF F K hK => ?_) ?_
    · have hz : a.tmps.size = 20 := hF.size
      have e3 : a.tmps[3]? = some (.pointer (some ⟨b, 0, none⟩)) := Inv2.some_slot (by rw [hz]; exact Nat.le_of_ble_eq_true rfl) (hF.slot 3 (by kernel_rfl))
      clear F hF hz
      obtain ⟨d0, d1, d2, d3, d4, d5⟩ := HC.out _ hJ
      go_simp
      exact hK (.agg #[.string t.k, .string t.i, .string t.r, .string t.u.k, .string t.u.i, .string t.u.r]) _ hJ (Below.refl _ _) rfl
    refine Inv.from_cons _ _ _ _ rfl (fun _ a w hJ hF F K hK => ?_) ?_
    · have hz : a.tmps.size = 20 := hF.size
      have e14 : a.tmps[14]? = some (mv) := Inv2.some_slot (by rw [hz]; exact Nat.le_of_ble_eq_true rfl) (F 6 (by kernel_rfl) 14 rfl)
      have e15 : a.tmps[15]? = some (.agg #[.string t.k, .string t.i, .string t.r, .string t.u.k, .string t.u.i, .string t.u.r]) := Inv2.some_slot (by rw [hz]; exact Nat.le_of_ble_eq_true rfl) (F 7 (by kernel_rfl) 15 rfl)
      clear F hF hz
      have hh := HL2.out _ hJ
      go_simp
      exact hK (.tuple #[.agg #[], .bool hb]) _ hJ (Below.refl _ _) rfl
    refine Inv.from_cons _ _ _ _ rfl (fun _ a w hJ hF F K hK => ?_) ?_
    · have hz : a.tmps.size = 20 := hF.size
      have e16 : a.tmps[16]? = some (.tuple #[.agg #[], .bool hb]) := Inv2.some_slot (by rw [hz]; exact Nat.le_of_ble_eq_true rfl) (F 8 (by kernel_rfl) 16 rfl)
      clear F hF hz
      go_simp
      exact hK (.tuple #[.agg #[], .bool hb]) _ hJ (Below.refl _ _) rfl
    refine Inv.from_cons _ _ _ _ rfl (fun _ a w hJ hF F K hK => ?_) ?_
    · have hz : a.tmps.size = 20 := hF.size
      have e7 : a.tmps[7]? = some (.tuple #[.agg #[], .bool hb]) := Inv2.some_slot (by rw [hz]; exact Nat.le_of_ble_eq_true rfl) (F 9 (by kernel_rfl) 7 rfl)
      clear F hF hz
      go_simp
      exact hK (.agg #[]) _ hJ (Below.refl _ _) rfl
    refine Inv.from_cons _ _ _ _ rfl (fun _ a w hJ hF F K hK => ?_) ?_
    · have hz : a.tmps.size = 20 := hF.size
      have e7 : a.tmps[7]? = some (.tuple #[.agg #[], .bool hb]) := Inv2.some_slot (by rw [hz]; exact Nat.le_of_ble_eq_true rfl) (F 9 (by kernel_rfl) 7 rfl)
      clear F hF hz
      go_simp
      exact hK (.bool hb) _ hJ (Below.refl _ _) rfl
    refine Inv.from_cons _ _ _ _ rfl (fun _ a w hJ hF F K hK => ?_) ?_
    · have hz : a.tmps.size = 20 := hF.size
      clear F hF hz
      go_simp
      exact hK _ _ (hJ.alloc (hJ.size) _) ((Below.refl _ _).alloc (Nat.le_refl _) _) ⟨_, rfl, hJ.size, by simp⟩
    refine Inv.from_cons _ _ _ _ rfl (fun _ a w hJ hF F K hK => ?_) ?_
    · have hz : a.tmps.size = 20 := hF.size
      have e8 : a.tmps[8]? = some (.pointer (some ⟨fb, 0, none⟩)) := Inv2.some_slot (by rw [hz]; exact Nat.le_of_ble_eq_true rfl) (F 0 (by kernel_rfl) 8 rfl)
      have e9 : a.tmps[9]? = some (.pointer (some ⟨fb, 0, none⟩)) := Inv2.some_slot (by rw [hz]; exact Nat.le_of_ble_eq_true rfl) (F 1 (by kernel_rfl) 9 rfl)
      have e10 : a.tmps[10]? = some (.pointer (some ⟨fb, 0, none⟩)) := Inv2.some_slot (by rw [hz]; exact Nat.le_of_ble_eq_true rfl) (F 2 (by kernel_rfl) 10 rfl)
      have e11 : a.tmps[11]? = some (.map (some gm)) := Inv2.some_slot (by rw [hz]; exact Nat.le_of_ble_eq_true rfl) (F 3 (by kernel_rfl) 11 rfl)
      have e12 : a.tmps[12]? = some (.agg #[.string t.k, .string t.i, .string t.r, .string t.u.k, .string t.u.i, .string t.u.r]) := Inv2.some_slot (by rw [hz]; exact Nat.le_of_ble_eq_true rfl) (F 4 (by kernel_rfl) 12 rfl)
      have e13 : a.tmps[13]? = some (.agg #[.string t.k, .string t.i, .string t.r]) := Inv2.some_slot (by rw [hz]; exact Nat.le_of_ble_eq_true rfl) (F 5 (by kernel_rfl) 13 rfl)
      have e14 : a.tmps[14]? = some (mv) := Inv2.some_slot (by rw [hz]; exact Nat.le_of_ble_eq_true rfl) (F 6 (by kernel_rfl) 14 rfl)
      have e15 : a.tmps[15]? = some (.agg #[.string t.k, .string t.i, .string t.r, .string t.u.k, .string t.u.i, .string t.u.r]) := Inv2.some_slot (by rw [hz]; exact Nat.le_of_ble_eq_true rfl) (F 7 (by kernel_rfl) 15 rfl)
      have e16 : a.tmps[16]? = some (.tuple #[.agg #[], .bool hb]) := Inv2.some_slot (by rw [hz]; exact Nat.le_of_ble_eq_true rfl) (F 8 (by kernel_rfl) 16 rfl)
      have e7 : a.tmps[7]? = some (.tuple #[.agg #[], .bool hb]) := Inv2.some_slot (by rw [hz]; exact Nat.le_of_ble_eq_true rfl) (F 9 (by kernel_rfl) 7 rfl)
      have e17 : a.tmps[17]? = some (.agg #[]) := Inv2.some_slot (by rw [hz]; exact Nat.le_of_ble_eq_true rfl) (F 10 (by kernel_rfl) 17 rfl)
      obtain ⟨x5, e5, f12⟩ : ∃ xv, a.tmps[5]? = some xv ∧ FreshV w1.heap.size xv w := ⟨_, Inv2.some_slot (by rw [hz]; exact Nat.le_of_ble_eq_true rfl) rfl, F 12 (by kernel_rfl) 5 rfl⟩
      clear F hF hz
      obtain ⟨bb, rfl, hbb, hbc⟩ := f12
      go_simp
      exact hK undef _ hJ (Below.refl _ _) trivial
    refine Inv.from_cons _ _ _ _ rfl (fun _ a w hJ hF F K hK => ?_) ?_
    · have hz : a.tmps.size = 20 := hF.size
      have e8 : a.tmps[8]? = some (.pointer (some ⟨fb, 0, none⟩)) := Inv2.some_slot (by rw [hz]; exact Nat.le_of_ble_eq_true rfl) (F 0 (by kernel_rfl) 8 rfl)
      have e9 : a.tmps[9]? = some (.pointer (some ⟨fb, 0, none⟩)) := Inv2.some_slot (by rw [hz]; exact Nat.le_of_ble_eq_true rfl) (F 1 (by kernel_rfl) 9 rfl)
      have e10 : a.tmps[10]? = some (.pointer (some ⟨fb, 0, none⟩)) := Inv2.some_slot (by rw [hz]; exact Nat.le_of_ble_eq_true rfl) (F 2 (by kernel_rfl) 10 rfl)
      have e11 : a.tmps[11]? = some (.map (some gm)) := Inv2.some_slot (by rw [hz]; exact Nat.le_of_ble_eq_true rfl) (F 3 (by kernel_rfl) 11 rfl)
      have e12 : a.tmps[12]? = some (.agg #[.string t.k, .string t.i, .string t.r, .string t.u.k, .string t.u.i, .string t.u.r]) := Inv2.some_slot (by rw [hz]; exact Nat.le_of_ble_eq_true rfl) (F 4 (by kernel_rfl) 12 rfl)
      have e13 : a.tmps[13]? = some (.agg #[.string t.k, .string t.i, .string t.r]) := Inv2.some_slot (by rw [hz]; exact Nat.le_of_ble_eq_true rfl) (F 5 (by kernel_rfl) 13 rfl)
      have e14 : a.tmps[14]? = some (mv) := Inv2.some_slot (by rw [hz]; exact Nat.le_of_ble_eq_true rfl) (F 6 (by kernel_rfl) 14 rfl)
      have e15 : a.tmps[15]? = some (.agg #[.string t.k, .string t.i, .string t.r, .string t.u.k, .string t.u.i, .string t.u.r]) := Inv2.some_slot (by rw [hz]; exact Nat.le_of_ble_eq_true rfl) (F 7 (by kernel_rfl) 15 rfl)
      have e16 : a.tmps[16]? = some (.tuple #[.agg #[], .bool hb]) := Inv2.some_slot (by rw [hz]; exact Nat.le_of_ble_eq_true rfl) (F 8 (by kernel_rfl) 16 rfl)
      have e7 : a.tmps[7]? = some (.tuple #[.agg #[], .bool hb]) := Inv2.some_slot (by rw [hz]; exact Nat.le_of_ble_eq_true rfl) (F 9 (by kernel_rfl) 7 rfl)
      have e17 : a.tmps[17]? = some (.agg #[]) := Inv2.some_slot (by rw [hz]; exact Nat.le_of_ble_eq_true rfl) (F 10 (by kernel_rfl) 17 rfl)
      have e18 : a.tmps[18]? = some (.bool hb) := Inv2.some_slot (by rw [hz]; exact Nat.le_of_ble_eq_true rfl) (F 11 (by kernel_rfl) 18 rfl)
      obtain ⟨x5, e5, f12⟩ : ∃ xv, a.tmps[5]? = some xv ∧ FreshV w1.heap.size xv w := ⟨_, Inv2.some_slot (by rw [hz]; exact Nat.le_of_ble_eq_true rfl) rfl, F 12 (by kernel_rfl) 5 rfl⟩
      clear F hF hz
      go_simp
      exact hK (.bool hb) _ hJ (Below.refl _ _) rfl
    exact Inv.from_end _ _ _ _ (by decide +kernel)
  · intro o ho; exact absurd ho (by simp)
  · intro _ a w hJ hF F
    obtain ⟨f, hf⟩ : ∃ f : Nat → Value, ∀ i, a.tmps.getD i undef = f i := ⟨_, fun _ => rfl⟩
    have g0 : f 0 = (.pointer (some ⟨fb, 0, none⟩)) := (hf 0).symm.trans (hF.slot 0 (by kernel_rfl))
    have g3 : f 3 = (.pointer (some ⟨b, 0, none⟩)) := (hf 3).symm.trans (hF.slot 3 (by kernel_rfl))
    have g8 : f 8 = (.pointer (some ⟨fb, 0, none⟩)) := (hf 8).symm.trans (F 0 8 rfl)
    have g9 : f 9 = (.pointer (some ⟨fb, 0, none⟩)) := (hf 9).symm.trans (F 1 9 rfl)
    have g10 : f 10 = (.pointer (some ⟨fb, 0, none⟩)) := (hf 10).symm.trans (F 2 10 rfl)
    have g11 : f 11 = (.map (some gm)) := (hf 11).symm.trans (F 3 11 rfl)
    have g12 : f 12 = (.agg #[.string t.k, .string t.i, .string t.r, .string t.u.k, .string t.u.i, .string t.u.r]) := (hf 12).symm.trans (F 4 12 rfl)
    have g13 : f 13 = (.agg #[.string t.k, .string t.i, .string t.r]) := (hf 13).symm.trans (F 5 13 rfl)
    have g14 : f 14 = (mv) := (hf 14).symm.trans (F 6 14 rfl)
    have g15 : f 15 = (.agg #[.string t.k, .string t.i, .string t.r, .string t.u.k, .string t.u.i, .string t.u.r]) := (hf 15).symm.trans (F 7 15 rfl)
    have g16 : f 16 = (.tuple #[.agg #[], .bool hb]) := (hf 16).symm.trans (F 8 16 rfl)
    have g7 : f 7 = (.tuple #[.agg #[], .bool hb]) := (hf 7).symm.trans (F 9 7 rfl)
    have g17 : f 17 = (.agg #[]) := (hf 17).symm.trans (F 10 17 rfl)
    have g18 : f 18 = (.bool hb) := (hf 18).symm.trans (F 11 18 rfl)
    obtain ⟨x5, g5⟩ : ∃ x, f 5 = x := ⟨_, rfl⟩
    have f12 : FreshV w1.heap.size x5 w := by rw [← g5, ← hf 5]; exact F 12 5 rfl
    have g6 : f 6 = (.bool hb) := (hf 6).symm.trans (F 14 6 rfl)
    have ha := Frames.frame (show a.tmps.size = 20 from hF.size) hF.defers hf (l := [f 0, f 1, f 2, f 3, f 4, f 5, f 6, f 7, f 8, f 9, f 10, f 11, f 12, f 13, f 14, f 15, f 16, f 17, f 18, f 19]) rfl
    simp only [g0, g3, g8, g9, g10, g11, g12, g13, g14, g15, g16, g7, g17, g18, g5, g6] at ha
    clear F hF hf g0 g3 g8 g9 g10 g11 g12 g13 g14 g15 g16 g7 g17 g18 g5 g6
    subst ha
    have HB := Lib.hid (HB1.out.trans (hJ.mono HB1.out.size))
    clear hJ
    go_wp2_with fail
    go_ret
    exact ⟨ret_bool HM.out, HB.out⟩
end Go.Proofs.YtilcnhdfdgmekaaGreat.FactsHas
namespace Go.Proofs.YtilcnhdfdgmekaaGreat.FactsPut
open Go.RowKit Base KeyPlain TuplePlain TupleRef TupleSpec TupleCut FMap FactsPlain FactsMem FactsHas
open Go.ChangeMaps (setBlock)

theorem set_block {w : World} {b : Nat} {o o' : Obj} (_ : w.heap[b]? = some o) {k : Nat} (hk : k ≠ b) : (setBlock w b o').heap[k]? = w.heap[k]? := by
  simp only [setBlock]
  exact Array.getElem?_setIfInBounds_ne (Ne.symm hk)
def MadeV (lo : Nat) (B : Nat) (v : Value) (w : World) : Prop := ∃ b : Nat, v = .map (some b) ∧ lo ≤ b ∧ B ≤ b ∧ Mp Tryz.prog 32 w b []
theorem MadeV.below {lo B : Nat} {v : Value} {w w' : World} (h : MadeV lo B v w) (hb : Below w.heap.size w w') : MadeV lo B v w' := by
  obtain ⟨b, h1, h2, h3, h4⟩ := h
  exact ⟨b, h1, h2, h3, h4.below hb h4.lt⟩
/-- a map of its own for a new relation to an object -/
theorem Fx.more {lo : Nat} {w : World} {fb gm : Nat} {G : List Grp} (h : Fx lo w fb gm G) {u : Us} (hu : UsF u) (hno : ∀ g ∈ G, g.u ≠ u) {b : Nat} (hb : Mp Tryz.prog 32 w b []) (hlo : lo ≤ b) (hne : b ≠ fb ∧ b ≠ gm ∧ ∀ g ∈ G, b ≠ g.b) :
    ∃ o, (Instr.mapUpdate 62 (.map (some gm)) (.agg (uc u)) (.map (some b))).run Tryz.prog w = .ok () (setBlock w gm o) ∧ Fx lo (setBlock w gm o) fb gm (G ++ [⟨u, b, []⟩]) ∧ Wn lo w (setBlock w gm o) := by
  obtain ⟨o, hrun, hm⟩ := h.top.add key_us under_top (v := .map (some b)) (isKey_us u hu) (fun q => by obtain ⟨g, hg, e⟩ := mem_topL.1 q; exact hno g hg e)
  obtain ⟨es, c, hgm, _⟩ := h.top.ex
  have keep : ∀ k, k ≠ gm → (setBlock w gm o).heap[k]? = w.heap[k]? := fun k hk => set_block hgm hk
  refine ⟨o, hrun, ⟨(keep fb (fun q => by have := h.box; rw [q, hgm] at this; cases this)).trans h.box, by unfold topL at hm ⊢; rw [List.map_append]; exact hm, ?_, ?_, ?_, ?_, ?_, ⟨h.low.1, h.low.2.1, ?_⟩⟩, Wn.set h.top h.low.2.1 o⟩
  · intro g hg
    rcases List.mem_append.1 hg with hg | hg
    · exact (h.each g hg).same (keep _ (h.ne g hg))
    · obtain rfl := List.mem_singleton.1 hg
      exact hb.same (keep _ hne.2.1)
  · intro g hg t ht
    rcases List.mem_append.1 hg with hg | hg
    · exact h.obj g hg t ht
    · obtain rfl := List.mem_singleton.1 hg
      cases ht
  · intro t ht
    simp only [alls, List.flatMap_append, List.mem_append] at ht
    rcases ht with ht | ht
    · exact h.oks t ht
    · simp at ht
  · rw [List.map_append, List.nodup_append]
    refine ⟨h.apart, by simp, ?_⟩
    intro x hx y hy
    obtain ⟨g, hg, rfl⟩ := List.mem_map.1 hx
    simp only [List.map_cons, List.map_nil, List.mem_singleton] at hy
    subst hy
    exact fun q => hne.2.2 g hg q.symm
  · intro g hg
    rcases List.mem_append.1 hg with hg | hg
    · exact h.ne g hg
    · obtain rfl := List.mem_singleton.1 hg
      exact hne.2.1
  · intro g hg
    rcases List.mem_append.1 hg with hg | hg
    · exact h.low.2.2 g hg
    · obtain rfl := List.mem_singleton.1 hg
      exact hlo
theorem alls_more (G : List Grp) (u : Us) (b : Nat) : alls (G ++ [⟨u, b, []⟩]) = alls G := by simp [alls]
/-- a tuple more among those with its relation to its object -/
theorem Fx.add {lo : Nat} {w : World} {fb gm : Nat} {G : List Grp} (h : Fx lo w fb gm G) {t : Tp} (ht : t.ok = true) {g : Grp} (hg : g ∈ G) (hu : g.u = t.obj) (hnt : t ∉ g.ts) :
    ∃ o G', (Instr.mapUpdate 68 (.map (some g.b)) (.agg (tc t)) (.agg #[])).run Tryz.prog w = .ok () (setBlock w g.b o) ∧ Fx lo (setBlock w g.b o) fb gm G' ∧ (∀ x, x ∈ alls G' ↔ x ∈ alls G ∨ x = t) ∧ Wn lo w (setBlock w g.b o) := by
  obtain ⟨o, hrun, hm⟩ := (h.each g hg).add key_tp under_tps (v := .agg #[]) (isKey_tp t (ok_fine ht)) (fun q => hnt (mem_tpsL.1 q))
  obtain ⟨es, c, hgb, _⟩ := (h.each g hg).ex
  have keep : ∀ k, k ≠ g.b → (setBlock w g.b o).heap[k]? = w.heap[k]? := fun k hk => set_block hgb hk
  obtain ⟨A, B, rfl⟩ := List.append_of_mem hg
  have hap := h.apart
  rw [List.map_append, List.map_cons, List.nodup_append] at hap
  have hB := List.nodup_cons.1 hap.2.1
  have hne : ∀ x ∈ A ++ B, x.b ≠ g.b := by
    intro x hx
    rcases List.mem_append.1 hx with hx | hx
    · exact hap.2.2 _ (List.mem_map.2 ⟨x, hx, rfl⟩) _ (by simp)
    · exact fun q => hB.1 (List.mem_map.2 ⟨x, hx, q⟩)
  have sub : ∀ x, x ∈ A ++ ⟨g.u, g.b, g.ts ++ [t]⟩ :: B → x = ⟨g.u, g.b, g.ts ++ [t]⟩ ∨ (x ∈ A ++ B ∧ x ∈ A ++ g :: B) := by
    intro x hx
    rcases List.mem_append.1 hx with hx | hx
    · exact .inr ⟨by simp [hx], by simp [hx]⟩
    · rcases List.mem_cons.1 hx with rfl | hx
      · exact .inl rfl
      · exact .inr ⟨by simp [hx], by simp [hx]⟩
  refine ⟨o, A ++ ⟨g.u, g.b, g.ts ++ [t]⟩ :: B, hrun, ⟨(keep fb (fun q => by have := h.box; rw [q, hgb] at this; cases this)).trans h.box, ?_, ?_, ?_, ?_, ?_, ?_, ⟨h.low.1, h.low.2.1, ?_⟩⟩, ?_, Wn.set (h.each g hg) (h.low.2.2 g hg) o⟩
  · have e : topL (A ++ ⟨g.u, g.b, g.ts ++ [t]⟩ :: B) = topL (A ++ g :: B) := by simp [topL]
    rw [e]
    exact h.top.same (keep gm (Ne.symm (h.ne g hg)))
  · intro x hx
    rcases sub x hx with rfl | ⟨hx, hx2⟩
    · show Mp _ _ _ g.b (tpsL (g.ts ++ [t]))
      unfold tpsL at hm ⊢
      rw [List.map_append]
      exact hm
    · exact (h.each x hx2).same (keep _ (hne x hx))
  · intro x hx s hs
    rcases sub x hx with rfl | ⟨hx, hx2⟩
    · rcases List.mem_append.1 hs with hs | hs
      · exact h.obj g hg s hs
      · obtain rfl := List.mem_singleton.1 hs
        exact hu.symm
    · exact h.obj x hx2 s hs
  · intro s hs
    obtain ⟨x, hx, hsx⟩ := mem_alls.1 hs
    rcases sub x hx with rfl | ⟨hx, hx2⟩
    · rcases List.mem_append.1 hsx with hsx | hsx
      · exact h.oks s (mem_alls.2 ⟨g, hg, hsx⟩)
      · obtain rfl := List.mem_singleton.1 hsx
        exact ht
    · exact h.oks s (mem_alls.2 ⟨x, hx2, hsx⟩)
  · have e : (A ++ ⟨g.u, g.b, g.ts ++ [t]⟩ :: B).map (·.b) = (A ++ g :: B).map (·.b) := by simp
    rw [e]
    exact h.apart
  · intro x hx
    rcases sub x hx with rfl | ⟨hx, hx2⟩
    · exact h.ne g hg
    · exact h.ne x hx2
  · intro x hx
    rcases sub x hx with rfl | ⟨hx, hx2⟩
    · exact h.low.2.2 g hg
    · exact h.low.2.2 x hx2
  · intro x
    simp only [alls, List.flatMap_append, List.flatMap_cons, List.mem_append, List.mem_singleton]
    constructor
    · rintro (h1 | (h1 | h1) | h1)
      · exact .inl (.inl h1)
      · exact .inl (.inr (.inl h1))
      · exact .inr h1
      · exact .inl (.inr (.inr h1))
    · rintro ((h1 | h1 | h1) | h1)
      · exact .inl h1
      · exact .inr (.inl (.inl h1))
      · exact .inr (.inr h1)
      · exact .inr (.inl (.inr h1))
/-- what Put comes to -/
def PutPost (lo : Nat) (w : World) (fb gm : Nat) (G : List Grp) (t : Tp) (e : Ending) (w' : World) : Prop :=
  ∃ G', e = .returned (.bool (t.ok && decide (t ∉ alls G))) ∧ Fx lo w' fb gm G' ∧ (∀ x, x ∈ alls G' ↔ x ∈ alls G ∨ (x = t ∧ t.ok = true)) ∧ Wn lo w w'
set_option maxRecDepth 100000 in
set_option maxHeartbeats 12800000 in
theorem put_any {lo : Nat} {w0 : World} {fb gm : Nat} {G : List Grp} (h : Fx lo w0 fb gm G) (hlo : lo ≤ w0.heap.size) (t : Tp) (ht : TpF t) :
    Calls Tryz.prog 16 #[.pointer (some ⟨fb, 0, none⟩), .agg (tc t)] w0 (PutPost lo w0 fb gm G t) := by
  by_cases hok : t.ok = true
  rotate_left
  · have hc := fun w => check_any t w ht
    rw [Bool.not_eq_true] at hok
    rw [hok] at hc
    have HP := Lib.hid (fun (w' : World) (hb : Below w0.heap.size w0 w') => show PutPost lo w0 fb gm G t (.returned (.bool false)) w' from ⟨G, by rw [hok]; rfl, h.below hb, fun x => by rw [hok]; simp, Wn.ofBelow hb⟩)
    have b1 := al w0 (.cells (tc t) 32)
    have a1 := heap_alloc_new w0 (.cells (tc t) 32)
    have hcc := hc (w0.alloc (.cells (tc t) 32))
    have HB := Lib.hid b1
    clear hc h ht hok b1
    unfold tc at a1 hcc HB ⊢
    obtain ⟨d0, d1, d2, d3, d4, d5⟩ := six_at a1
    clear a1
    go_enter Tryz.func16, Tryz.ntmps16
    go_wp2_with fail
    (with_reducible refine hcc.mono ?_)
    clear hcc d0 d1 d2 d3 d4 d5
    rintro e w2 ⟨rfl, b2⟩
    have HB2 := Lib.hid (HP.out w2 (Below.step HB.out b2))
    clear b2
    go_wp2_with fail
    go_ret
    exact HB2.out
  have hc := fun w => check_any t w ht
  rw [hok] at hc
  obtain ⟨w1, hw1⟩ : ∃ v, v = w0.alloc (.cells (tc t) 32) := ⟨_, rfl⟩
  obtain ⟨b, hbe⟩ : ∃ v, v = w0.heap.size := ⟨_, rfl⟩
  have b1 : Below w0.heap.size w0 w1 := by rw [hw1]; exact al _ _
  have a1 : w1.heap[b]? = some (.cells (tc t) 32 (0, 0)) := by rw [hw1, hbe]; exact heap_alloc_new w0 _
  have hb1 : b < w1.heap.size := by rw [hw1, hbe]; simp
  have hcc := hc w1
  have HW1 := Lib.hid hw1
  have HBE := Lib.hid hbe
  have HOK := Lib.hid hok
  have HB1 := Lib.hid b1
  have HX := Lib.hid h
  have HLO := Lib.hid hlo
  have HT := Lib.hid ht
  have HA1 := Lib.hid a1
  have HBL := Lib.hid hb1
  clear hc hw1 hbe hok b1 h hlo ht hb1
  unfold tc at a1 hcc HW1 ⊢
  obtain ⟨d0, d1, d2, d3, d4, d5⟩ := six_at a1
  clear a1
  go_enter Tryz.func16, Tryz.ntmps16
  go_upto_region 1 with fail
  rw [← HW1.out, ← HBE.out]
  go_wp2_with fail
  (with_reducible refine hcc.mono ?_)
  clear hcc d0 d1 d2 d3 d4 d5
  rintro e w2 ⟨rfl, b2⟩
  have hhas := has_any (HX.out.below (Below.step HB1.out b2)) t HT.out
  obtain ⟨d0, d1, d2, d3, d4, d5⟩ := six_at ((b2.block b HBL.out).trans HA1.out)
  have HB2 := Lib.hid b2
  clear b2
  unfold tc at hhas
  by_cases hm : t ∈ alls G
  · rw [decide_eq_true hm] at hhas
    have HM := Lib.hid hm
    clear hm
    go_wp2_with fail
    (with_reducible refine hhas.mono ?_)
    clear hhas d0 d1 d2 d3 d4 d5
    rintro e w3 ⟨rfl, b3⟩
    have HP := Lib.hid (show PutPost lo w0 fb gm G t (.returned (.bool false)) w3 from ⟨G, by rw [HOK.out]; simp [HM.out], HX.out.below (Below.step (Below.step HB1.out HB2.out) b3), fun x => ⟨.inl, fun q => q.elim id fun q => q.1 ▸ HM.out⟩, Wn.ofBelow (Below.step (Below.step HB1.out HB2.out) b3)⟩)
    clear b3
    go_wp2_with fail
    go_ret
    exact HP.out
  rw [decide_eq_false hm] at hhas
  have HNA := Lib.hid hm
  clear hm
  go_wp2_with fail
  (with_reducible refine hhas.mono ?_)
  clear hhas d0 d1 d2 d3 d4 d5
  rintro e w5 ⟨rfl, b5⟩
  obtain ⟨d0, d1, d2, d3, d4, d5⟩ := six_at ((b5.block b (Nat.lt_of_lt_of_le HBL.out HB2.out.size)).trans ((HB2.out.block b HBL.out).trans HA1.out))
  have hobj := FactsHas.object_any t w5
  unfold tc uc Tp.obj at hobj
  have HB5 := Lib.hid (Below.step HB2.out b5)
  clear b5
  go_wp2_with fail
  (with_reducible refine hobj.mono ?_)
  clear hobj d0 d1 d2 d3 d4 d5
  rintro e w6 ⟨rfl, b6⟩
  have HB6 := Lib.hid (Below.step HB5.out b6)
  clear b6
  obtain ⟨w3, hw3⟩ : ∃ v, v = w6.alloc (.cells #[.string t.k, .string t.i, .string t.r] 30) := ⟨_, rfl⟩
  obtain ⟨ob, hob⟩ : ∃ v, v = w6.heap.size := ⟨_, rfl⟩
  have b3 : Below w6.heap.size w6 w3 := by rw [hw3]; exact al _ _
  have a3 : w3.heap[ob]? = some (.cells #[.string t.k, .string t.i, .string t.r] 30 (0, 0)) := by rw [hw3, hob]; exact heap_alloc_new w6 _
  have hob3 : ob < w3.heap.size := by rw [hw3, hob]; simp
  have HB3' := Lib.hid (Below.step HB6.out b3)
  have HOB := Lib.hid (And.intro a3 hob3)
  have HBB := Lib.hid (show w3.heap[b]? = some (.cells (tc t) 32 (0, 0)) ∧ b < w3.heap.size from ⟨(HB3'.out.block b HBL.out).trans HA1.out, Nat.lt_of_lt_of_le HBL.out HB3'.out.size⟩)
  have HB3 := Lib.hid (show Wn lo w0 w3 from Wn.ofBelow (Below.step HB1.out HB3'.out))
  have hx3 := HX.out.below (Below.step HB1.out HB3'.out)
  have HLO3 := Lib.hid (Nat.le_trans HLO.out (Below.step HB1.out HB3'.out).size)
  clear HX HLO
  have HX := Lib.hid hx3
  have HLO := Lib.hid HLO3.out
  have hUF : UsF t.obj := ⟨HT.out.1, HT.out.2.1, HT.out.2.2.1⟩
  have HUF := Lib.hid hUF
  obtain ⟨mv, qb, hl, hq, hqg, hr⟩ : ∃ (mv : Value) (qb : Bool), (∀ w', Below w3.heap.size w3 w' → (Instr.lookup 62 (.map (some gm)) (.agg (uc t.obj)) false).run Tryz.prog w' = .ok mv w') ∧ (∀ w', (binOp .eql 68 mv (.map none)).run Tryz.prog w' = .ok (.bool qb) w') ∧ (∀ w', (eqGuard .eql 68 (.tmp 21) (.const (.map none)) mv (.map none)).run Tryz.prog w' = .ok () w') ∧ ((∃ g ∈ G, g.u = t.obj ∧ mv = .map (some g.b) ∧ qb = false) ∨ ((∀ g ∈ G, g.u ≠ t.obj) ∧ mv = .map none ∧ qb = true)) := by
    rcases hx3.grp t.obj with ⟨g, hg, hu, _⟩ | ⟨hno, _⟩
    · exact ⟨.map (some g.b), false, fun w' hw => (hx3.below hw).top.look key_us under_top (List.mem_map.2 ⟨g, hg, by rw [hu]⟩) false, fun w' => by kernel_rfl, fun w' => by kernel_rfl, .inl ⟨g, hg, hu, rfl, rfl⟩⟩
    · exact ⟨.map none, true, fun w' hw => (hx3.below hw).top.miss key_us under_top (zero_tps w') (isKey_us _ hUF) (fun q => by obtain ⟨g, hg, e⟩ := mem_topL.1 q; exact hno g hg e) false, fun w' => by kernel_rfl, fun w' => by kernel_rfl, .inr ⟨hno, rfl, rfl⟩⟩
  have HL := Lib.hid hl
  have HQ := Lib.hid (And.intro hq hqg)
  have HR := Lib.hid hr
  have HF := Lib.hid (fun (w' : World) (hw' : Below w3.heap.size w3 w') => show w'.cell? ⟨fb, 0, none⟩ = some (.map (some gm)) by simp [World.cell?, (hx3.below hw').box])
  have HO := Lib.hid (fun (w' : World) (hw' : Below w3.heap.size w3 w') => three_at ((hw'.block ob hob3).trans a3))
  have HW3 := Lib.hid hw3
  have HOE := Lib.hid hob
  clear hw3 hob b3 a3 hob3 hx3 hUF hl hq hqg hr HLO3
  unfold uc Tp.obj at HL
  go_upto_region 4 with fail
  rw [← HW3.out, ← HOE.out]
  have hJ0 : Below w3.heap.size w3 (World.drew w3) := (Below.refl _ _).drew
  refine wp_region_any (by kernel_rfl) ?_
  change wpAny _ _ _ _ _ _ _ (World.drew _)
  refine Inv.inv_any (fun (i : Nat) (v : Value) (w : World) => match i with | 0 => v = .pointer (some ⟨fb, 0, none⟩) | 1 => v = .pointer (some ⟨fb, 0, none⟩) | 2 => v = .pointer (some ⟨fb, 0, none⟩) | 3 => v = .map (some gm) | 4 => v = .agg #[.string t.k, .string t.i, .string t.r] | 5 => v = mv | 6 => v = .bool qb | _ => True) (fun w' : World => Below w3.heap.size w3 w') _ 7 37 rfl rfl rfl (by kernel_rfl) (by kernel_rfl) hJ0 ?_ ?_ ?_ ?_
  · intro j v w w' h hb
    match j, h with
    | 0, h => exact h
    | 1, h => exact h
    | 2, h => exact h
    | 3, h => exact h
    | 4, h => exact h
    | 5, h => exact h
    | 6, h => exact h
    | (_ + 7), _ => exact trivial
  · skip
    refine Inv.from_cons _ _ _ _ rfl (fun _ a w hJ hF F K hK => ?_) ?_
    · have hz : a.tmps.size = 37 := hF.size
      have e0 : a.tmps[0]? = some (.pointer (some ⟨fb, 0, none⟩)) := Inv2.some_slot (by rw [hz]; exact Nat.le_of_ble_eq_true rfl) (hF.slot 0 (by kernel_rfl))
      clear F hF hz
      go_simp
      exact hK (.pointer (some ⟨fb, 0, none⟩)) _ hJ (Below.refl _ _) rfl
    refine Inv.from_cons _ _ _ _ rfl (fun _ a w hJ hF F K hK => ?_) ?_
    · have hz : a.tmps.size = 37 := hF.size
      have e16 : a.tmps[16]? = some (.pointer (some ⟨fb, 0, none⟩)) := Inv2.some_slot (by rw [hz]; exact Nat.le_of_ble_eq_true rfl) (F 0 (by kernel_rfl) 16 rfl)
      clear F hF hz
      go_simp
      exact hK (.pointer (some ⟨fb, 0, none⟩)) _ hJ (Below.refl _ _) rfl
    refine Inv.from_cons _ _ _ _ rfl (fun _ a w hJ hF F K hK => ?_) ?_
    · have hz : a.tmps.size = 37 := hF.size
      have e17 : a.tmps[17]? = some (.pointer (some ⟨fb, 0, none⟩)) := Inv2.some_slot (by rw [hz]; exact Nat.le_of_ble_eq_true rfl) (F 1 (by kernel_rfl) 17 rfl)
      clear F hF hz
      go_simp
      exact hK (.pointer (some ⟨fb, 0, none⟩)) _ hJ (Below.refl _ _) rfl
    refine Inv.from_cons _ _ _ _ rfl (fun _ a w hJ hF F K hK => ?_) ?_
    · have hz : a.tmps.size = 37 := hF.size
      have e18 : a.tmps[18]? = some (.pointer (some ⟨fb, 0, none⟩)) := Inv2.some_slot (by rw [hz]; exact Nat.le_of_ble_eq_true rfl) (F 2 (by kernel_rfl) 18 rfl)
      clear F hF hz
      have hh := HF.out _ hJ
      go_simp
      exact hK (.map (some gm)) _ hJ (Below.refl _ _) rfl
    refine Inv.from_cons _ _ _ _ rfl (fun _ a w hJ hF F K hK => ?_) ?_
    · have hz : a.tmps.size = 37 := hF.size
      have e5 : a.tmps[5]? = some (.pointer (some ⟨ob, 0, none⟩)) := Inv2.some_slot (by rw [hz]; exact Nat.le_of_ble_eq_true rfl) (hF.slot 5 (by kernel_rfl))
      clear F hF hz
      obtain ⟨d0, d1, d2⟩ := HO.out _ hJ
      go_simp
      exact hK (.agg #[.string t.k, .string t.i, .string t.r]) _ hJ (Below.refl _ _) rfl
    refine Inv.from_cons _ _ _ _ rfl (fun _ a w hJ hF F K hK => ?_) ?_
    · have hz : a.tmps.size = 37 := hF.size
      have e19 : a.tmps[19]? = some (.map (some gm)) := Inv2.some_slot (by rw [hz]; exact Nat.le_of_ble_eq_true rfl) (F 3 (by kernel_rfl) 19 rfl)
      have e20 : a.tmps[20]? = some (.agg #[.string t.k, .string t.i, .string t.r]) := Inv2.some_slot (by rw [hz]; exact Nat.le_of_ble_eq_true rfl) (F 4 (by kernel_rfl) 20 rfl)
      clear F hF hz
      have hh := HL.out _ hJ
      go_simp
      exact hK mv _ hJ (Below.refl _ _) rfl
    refine Inv.from_cons _ _ _ _ rfl (fun _ a w hJ hF F K hK => ?_) ?_
    · have hz : a.tmps.size = 37 := hF.size
      have e21 : a.tmps[21]? = some (mv) := Inv2.some_slot (by rw [hz]; exact Nat.le_of_ble_eq_true rfl) (F 5 (by kernel_rfl) 21 rfl)
      clear F hF hz
      have hh := HQ.out.1
      have hh2 := HQ.out.2
      go_simp
      exact hK (.bool qb) _ hJ (Below.refl _ _) rfl
    exact Inv.from_end _ _ _ _ (by decide +kernel)
  · intro o ho; exact absurd ho (by simp)
  · intro _ a w hJ hF F
    obtain ⟨f, hf⟩ : ∃ f : Nat → Value, ∀ i, a.tmps.getD i undef = f i := ⟨_, fun _ => rfl⟩
    have g0 : f 0 = (.pointer (some ⟨fb, 0, none⟩)) := (hf 0).symm.trans (hF.slot 0 (by kernel_rfl))
    have g3 : f 3 = (.pointer (some ⟨b, 0, none⟩)) := (hf 3).symm.trans (hF.slot 3 (by kernel_rfl))
    have g5 : f 5 = (.pointer (some ⟨ob, 0, none⟩)) := (hf 5).symm.trans (hF.slot 5 (by kernel_rfl))
    have g16 : f 16 = (.pointer (some ⟨fb, 0, none⟩)) := (hf 16).symm.trans (F 0 16 rfl)
    have g17 : f 17 = (.pointer (some ⟨fb, 0, none⟩)) := (hf 17).symm.trans (F 1 17 rfl)
    have g18 : f 18 = (.pointer (some ⟨fb, 0, none⟩)) := (hf 18).symm.trans (F 2 18 rfl)
    have g19 : f 19 = (.map (some gm)) := (hf 19).symm.trans (F 3 19 rfl)
    have g20 : f 20 = (.agg #[.string t.k, .string t.i, .string t.r]) := (hf 20).symm.trans (F 4 20 rfl)
    have g21 : f 21 = (mv) := (hf 21).symm.trans (F 5 21 rfl)
    have g22 : f 22 = (.bool qb) := (hf 22).symm.trans (F 6 22 rfl)
    have ha := Frames.frame (show a.tmps.size = 37 from hF.size) hF.defers hf (l := [f 0, f 1, f 2, f 3, f 4, f 5, f 6, f 7, f 8, f 9, f 10, f 11, f 12, f 13, f 14, f 15, f 16, f 17, f 18, f 19, f 20, f 21, f 22, f 23, f 24, f 25, f 26, f 27, f 28, f 29, f 30, f 31, f 32, f 33, f 34, f 35, f 36]) rfl
    simp only [g0, g3, g5, g16, g17, g18, g19, g20, g21, g22] at ha
    clear F hF hf g0 g3 g5 g16 g17 g18 g19 g20 g21 g22
    subst ha
    have HJ := Lib.hid hJ
    clear hJ
    go_upto_if 22 with fail
    go_cut [21, 22] from 23 to 28 (fun q1 q2 wx => q1 = q1 ∧ q2 = q2 ∧ ∃ (G2 : List Grp) (g : Grp), Fx lo wx fb gm G2 ∧ alls G2 = alls G ∧ g ∈ G2 ∧ g.u = t.obj ∧ t ∉ g.ts ∧ Wn lo w3 wx)
    case first =>
      rcases HR.out with ⟨g, hg, hu, hmv, hqb⟩ | ⟨hno, hmv, hqb⟩
      · subst hqb
        go_wp2_with fail
        go_meet
        exact ⟨trivial, trivial, G, g, HX.out.below HJ.out, rfl, hg, hu, fun q => HNA.out (mem_alls.2 ⟨g, hg, q⟩), Wn.ofBelow HJ.out⟩
      · subst hmv
        subst hqb
        have HNO := Lib.hid hno
        clear hno
        go_upto_region 5 with fail
        generalize f 1 = y1 at *
        generalize f 2 = y2 at *
        generalize f 4 = y4 at *
        generalize f 6 = y6 at *
        generalize f 7 = y7 at *
        generalize f 8 = y8 at *
        generalize f 9 = y9 at *
        generalize f 10 = y10 at *
        generalize f 11 = y11 at *
        generalize f 12 = y12 at *
        generalize f 13 = y13 at *
        generalize f 14 = y14 at *
        generalize f 15 = y15 at *
        generalize f 29 = y29 at *
        generalize f 30 = y30 at *
        generalize f 31 = y31 at *
        generalize f 32 = y32 at *
        generalize f 33 = y33 at *
        generalize f 34 = y34 at *
        generalize f 35 = y35 at *
        generalize f 36 = y36 at *
        have hJ0 : Below w3.heap.size w3 (World.drew w) := HJ.out.drew
        refine wp_region_any (by kernel_rfl) ?_
        change wpAny _ _ _ _ _ _ _ (World.drew _)
        refine Inv.inv_any (fun (i : Nat) (v : Value) (w : World) => match i with | 0 => v = .pointer (some ⟨fb, 0, none⟩) | 1 => v = .pointer (some ⟨fb, 0, none⟩) | 2 => v = .pointer (some ⟨fb, 0, none⟩) | 3 => v = .map (some gm) | 4 => v = .agg #[.string t.k, .string t.i, .string t.r] | 5 => MadeV lo w3.heap.size v w | _ => True) (fun w' : World => Below w3.heap.size w3 w') _ 6 37 rfl rfl rfl (by kernel_rfl) (by kernel_rfl) hJ0 ?_ ?_ ?_ ?_
        · intro j v w w' h hb
          match j, h with
          | 0, h => exact h
          | 1, h => exact h
          | 2, h => exact h
          | 3, h => exact h
          | 4, h => exact h
          | 5, h => exact MadeV.below h hb
          | 6, _ => exact trivial
          | (_ + 7), _ => exact trivial
        · skip
          refine Inv.from_cons _ _ _ _ rfl (fun _ a w hJ hF F K hK => ?_) ?_
          · have hz : a.tmps.size = 37 := hF.size
            have e0 : a.tmps[0]? = some (.pointer (some ⟨fb, 0, none⟩)) := Inv2.some_slot (by rw [hz]; exact Nat.le_of_ble_eq_true rfl) (hF.slot 0 (by kernel_rfl))
            clear F hF hz
            go_simp
            exact hK (.pointer (some ⟨fb, 0, none⟩)) _ hJ (Below.refl _ _) rfl
          refine Inv.from_cons _ _ _ _ rfl (fun _ a w hJ hF F K hK => ?_) ?_
          · have hz : a.tmps.size = 37 := hF.size
            have e23 : a.tmps[23]? = some (.pointer (some ⟨fb, 0, none⟩)) := Inv2.some_slot (by rw [hz]; exact Nat.le_of_ble_eq_true rfl) (F 0 (by kernel_rfl) 23 rfl)
            clear F hF hz
            go_simp
            exact hK (.pointer (some ⟨fb, 0, none⟩)) _ hJ (Below.refl _ _) rfl
          refine Inv.from_cons _ _ _ _ rfl (fun _ a w hJ hF F K hK => ?_) ?_
          · have hz : a.tmps.size = 37 := hF.size
            have e24 : a.tmps[24]? = some (.pointer (some ⟨fb, 0, none⟩)) := Inv2.some_slot (by rw [hz]; exact Nat.le_of_ble_eq_true rfl) (F 1 (by kernel_rfl) 24 rfl)
            clear F hF hz
            go_simp
            exact hK (.pointer (some ⟨fb, 0, none⟩)) _ hJ (Below.refl _ _) rfl
          refine Inv.from_cons _ _ _ _ rfl (fun _ a w hJ hF F K hK => ?_) ?_
          · have hz : a.tmps.size = 37 := hF.size
            have e25 : a.tmps[25]? = some (.pointer (some ⟨fb, 0, none⟩)) := Inv2.some_slot (by rw [hz]; exact Nat.le_of_ble_eq_true rfl) (F 2 (by kernel_rfl) 25 rfl)
            clear F hF hz
            have hh := HF.out _ hJ
            go_simp
            exact hK (.map (some gm)) _ hJ (Below.refl _ _) rfl
          refine Inv.from_cons _ _ _ _ rfl (fun _ a w hJ hF F K hK => ?_) ?_
          · have hz : a.tmps.size = 37 := hF.size
            have e5 : a.tmps[5]? = some (.pointer (some ⟨ob, 0, none⟩)) := Inv2.some_slot (by rw [hz]; exact Nat.le_of_ble_eq_true rfl) (hF.slot 5 (by kernel_rfl))
            clear F hF hz
            obtain ⟨d0, d1, d2⟩ := HO.out _ hJ
            go_simp
            exact hK (.agg #[.string t.k, .string t.i, .string t.r]) _ hJ (Below.refl _ _) rfl
          refine Inv.from_cons _ _ _ _ rfl (fun _ a w hJ hF F K hK => ?_) ?_
          · have hz : a.tmps.size = 37 := hF.size
            clear F hF hz
            go_simp
            exact hK _ _ (hJ.alloc hJ.size _) ((Below.refl _ _).alloc (Nat.le_refl _) _) ⟨_, rfl, Nat.le_trans HLO.out hJ.size, hJ.size, Mp.made _⟩
          refine Inv.from_skip _ _ _ _ rfl ?_
          exact Inv.from_end _ _ _ _ (by decide +kernel)
        · intro o ho a w hJ hF F K hK
          injection (show some _ = some o from ho) with ho
          subst ho
          obtain ⟨f, hf⟩ : ∃ f : Nat → Value, ∀ i, a.tmps.getD i undef = f i := ⟨_, fun _ => rfl⟩
          have g0 : f 0 = (.pointer (some ⟨fb, 0, none⟩)) := (hf 0).symm.trans (hF.slot 0 (by kernel_rfl))
          have g1 : f 1 = (y1) := (hf 1).symm.trans (hF.slot 1 (by kernel_rfl))
          have g2 : f 2 = (y2) := (hf 2).symm.trans (hF.slot 2 (by kernel_rfl))
          have g3 : f 3 = (.pointer (some ⟨b, 0, none⟩)) := (hf 3).symm.trans (hF.slot 3 (by kernel_rfl))
          have g4 : f 4 = (y4) := (hf 4).symm.trans (hF.slot 4 (by kernel_rfl))
          have g5 : f 5 = (.pointer (some ⟨ob, 0, none⟩)) := (hf 5).symm.trans (hF.slot 5 (by kernel_rfl))
          have g6 : f 6 = (y6) := (hf 6).symm.trans (hF.slot 6 (by kernel_rfl))
          have g7 : f 7 = (y7) := (hf 7).symm.trans (hF.slot 7 (by kernel_rfl))
          have g8 : f 8 = (y8) := (hf 8).symm.trans (hF.slot 8 (by kernel_rfl))
          have g9 : f 9 = (y9) := (hf 9).symm.trans (hF.slot 9 (by kernel_rfl))
          have g10 : f 10 = (y10) := (hf 10).symm.trans (hF.slot 10 (by kernel_rfl))
          have g11 : f 11 = (y11) := (hf 11).symm.trans (hF.slot 11 (by kernel_rfl))
          have g12 : f 12 = (y12) := (hf 12).symm.trans (hF.slot 12 (by kernel_rfl))
          have g13 : f 13 = (y13) := (hf 13).symm.trans (hF.slot 13 (by kernel_rfl))
          have g14 : f 14 = (y14) := (hf 14).symm.trans (hF.slot 14 (by kernel_rfl))
          have g15 : f 15 = (y15) := (hf 15).symm.trans (hF.slot 15 (by kernel_rfl))
          have g16 : f 16 = (.pointer (some ⟨fb, 0, none⟩)) := (hf 16).symm.trans (hF.slot 16 (by kernel_rfl))
          have g17 : f 17 = (.pointer (some ⟨fb, 0, none⟩)) := (hf 17).symm.trans (hF.slot 17 (by kernel_rfl))
          have g18 : f 18 = (.pointer (some ⟨fb, 0, none⟩)) := (hf 18).symm.trans (hF.slot 18 (by kernel_rfl))
          have g19 : f 19 = (.map (some gm)) := (hf 19).symm.trans (hF.slot 19 (by kernel_rfl))
          have g20 : f 20 = (.agg #[.string t.k, .string t.i, .string t.r]) := (hf 20).symm.trans (hF.slot 20 (by kernel_rfl))
          have g21 : f 21 = (.map none) := (hf 21).symm.trans (hF.slot 21 (by kernel_rfl))
          have g22 : f 22 = (.bool true) := (hf 22).symm.trans (hF.slot 22 (by kernel_rfl))
          have g29 : f 29 = (y29) := (hf 29).symm.trans (hF.slot 29 (by kernel_rfl))
          have g30 : f 30 = (y30) := (hf 30).symm.trans (hF.slot 30 (by kernel_rfl))
          have g31 : f 31 = (y31) := (hf 31).symm.trans (hF.slot 31 (by kernel_rfl))
          have g32 : f 32 = (y32) := (hf 32).symm.trans (hF.slot 32 (by kernel_rfl))
          have g33 : f 33 = (y33) := (hf 33).symm.trans (hF.slot 33 (by kernel_rfl))
          have g34 : f 34 = (y34) := (hf 34).symm.trans (hF.slot 34 (by kernel_rfl))
          have g35 : f 35 = (y35) := (hf 35).symm.trans (hF.slot 35 (by kernel_rfl))
          have g36 : f 36 = (y36) := (hf 36).symm.trans (hF.slot 36 (by kernel_rfl))
          have g23 : f 23 = (.pointer (some ⟨fb, 0, none⟩)) := (hf 23).symm.trans (F 0 (by decide) 23 rfl)
          have g24 : f 24 = (.pointer (some ⟨fb, 0, none⟩)) := (hf 24).symm.trans (F 1 (by decide) 24 rfl)
          have g25 : f 25 = (.pointer (some ⟨fb, 0, none⟩)) := (hf 25).symm.trans (F 2 (by decide) 25 rfl)
          have g26 : f 26 = (.map (some gm)) := (hf 26).symm.trans (F 3 (by decide) 26 rfl)
          have g27 : f 27 = (.agg #[.string t.k, .string t.i, .string t.r]) := (hf 27).symm.trans (F 4 (by decide) 27 rfl)
          obtain ⟨x28, g28⟩ : ∃ x, f 28 = x := ⟨_, rfl⟩
          have f5 : MadeV lo w3.heap.size x28 w := by rw [← g28, ← hf 28]; exact F 5 (by decide) 28 rfl
          have ha := Frames.frame (show a.tmps.size = 37 from hF.size) hF.defers hf (l := [f 0, f 1, f 2, f 3, f 4, f 5, f 6, f 7, f 8, f 9, f 10, f 11, f 12, f 13, f 14, f 15, f 16, f 17, f 18, f 19, f 20, f 21, f 22, f 23, f 24, f 25, f 26, f 27, f 28, f 29, f 30, f 31, f 32, f 33, f 34, f 35, f 36]) rfl
          simp only [g0, g1, g2, g3, g4, g5, g6, g7, g8, g9, g10, g11, g12, g13, g14, g15, g16, g17, g18, g19, g20, g21, g22, g29, g30, g31, g32, g33, g34, g35, g36, g23, g24, g25, g26, g27, g28] at ha
          clear F hF hf g0 g1 g2 g3 g4 g5 g6 g7 g8 g9 g10 g11 g12 g13 g14 g15 g16 g17 g18 g19 g20 g21 g22 g29 g30 g31 g32 g33 g34 g35 g36 g23 g24 g25 g26 g27 g28
          subst ha
          obtain ⟨b2, hbv, hb2lo, hb2, hb2m⟩ := f5
          subst hbv
          have hx := HX.out.below hJ
          have hlt := HX.out.lt
          obtain ⟨o9, hrun, hfx, hwn⟩ := Fx.more hx HUF.out HNO.out hb2m hb2lo ⟨by omega, by omega, fun g hg => by have := hlt.2.2 g hg; omega⟩
          have HP := Lib.hid (show ∃ (G2 : List Grp) (g : Grp), Fx lo (setBlock w gm o9) fb gm G2 ∧ alls G2 = alls G ∧ g ∈ G2 ∧ g.u = t.obj ∧ t ∉ g.ts ∧ Wn lo w3 (setBlock w gm o9) from ⟨G ++ [⟨t.obj, b2, []⟩], ⟨t.obj, b2, []⟩, hfx, alls_more _ _ _, by simp, rfl, by simp, (Wn.ofBelow hJ).trans hwn⟩)
          clear hx hlt hfx hwn hJ hb2m hb2 hb2lo
          unfold uc Tp.obj at hrun
          go_wp2_with fail
          go_meet
          exact ⟨trivial, trivial, HP.out⟩
        · intro hq; exact absurd hq (by decide +kernel)
    case rest =>
      obtain ⟨_, _, G2, g, hfx, hal, hg, hu, hnt, hwn⟩ := hcut
      have HX2 := Lib.hid hfx
      have HAL := Lib.hid hal
      have HG := Lib.hid hg
      have HU := Lib.hid hu
      have HNT := Lib.hid hnt
      have HWN := Lib.hid hwn
      obtain ⟨gb, hgb⟩ : ∃ v, v = g.b := ⟨_, rfl⟩
      have HGB := Lib.hid hgb
      have HF := Lib.hid (fun (w' : World) (hw' : Below wc.heap.size wc w') => show w'.cell? ⟨fb, 0, none⟩ = some (.map (some gm)) by simp [World.cell?, (hfx.below hw').box])
      have HO2 := Lib.hid (fun (w' : World) (hw' : Below wc.heap.size wc w') => three_at ((hw'.block ob (Nat.lt_of_lt_of_le HOB.out.2 hwn.size)).trans (hwn.cells HOB.out.1)))
      have HC2 := Lib.hid (fun (w' : World) (hw' : Below wc.heap.size wc w') => six_at ((hw'.block b (Nat.lt_of_lt_of_le HBB.out.2 hwn.size)).trans (hwn.cells HBB.out.1)))
      have HL2 := Lib.hid (fun (w' : World) (hw' : Below wc.heap.size wc w') => show (Instr.lookup 62 (.map (some gm)) (.agg #[.string t.k, .string t.i, .string t.r]) false).run Tryz.prog w' = .ok (.map (some gb)) w' by rw [hgb]; exact (hfx.below hw').top.look key_us under_top (List.mem_map.2 ⟨g, hg, by rw [hu]; rfl⟩) false)
      clear hfx hal hg hu hnt hwn hgb
      go_upto_region 6 with fail
      have hJ0 : Below wc.heap.size wc (World.drew wc) := (Below.refl _ _).drew
      refine wp_region_any (by kernel_rfl) ?_
      change wpAny _ _ _ _ _ _ _ (World.drew _)
      refine Inv.inv_any (fun (i : Nat) (v : Value) (w : World) => match i with | 0 => v = .pointer (some ⟨fb, 0, none⟩) | 1 => v = .pointer (some ⟨fb, 0, none⟩) | 2 => v = .pointer (some ⟨fb, 0, none⟩) | 3 => v = .map (some gm) | 4 => v = .agg #[.string t.k, .string t.i, .string t.r] | 5 => v = .map (some gb) | 6 => v = .agg #[.string t.k, .string t.i, .string t.r, .string t.u.k, .string t.u.i, .string t.u.r] | 7 => v = .agg #[] | _ => True) (fun w' : World => Below wc.heap.size wc w') _ 8 37 rfl rfl rfl (by kernel_rfl) (by kernel_rfl) hJ0 ?_ ?_ ?_ ?_
      · intro j v w w' h hb
        match j, h with
        | 0, h => exact h
        | 1, h => exact h
        | 2, h => exact h
        | 3, h => exact h
        | 4, h => exact h
        | 5, h => exact h
        | 6, h => exact h
        | 7, h => exact h
        | 8, _ => exact trivial
        | (_ + 9), _ => exact trivial
      · skip
        refine Inv.from_cons _ _ _ _ rfl (fun _ a w hJ hF F K hK => ?_) ?_
        · have hz : a.tmps.size = 37 := hF.size
          have e0 : a.tmps[0]? = some (.pointer (some ⟨fb, 0, none⟩)) := Inv2.some_slot (by rw [hz]; exact Nat.le_of_ble_eq_true rfl) (hF.slot 0 (by kernel_rfl))
          clear F hF hz
          go_simp
          exact hK (.pointer (some ⟨fb, 0, none⟩)) _ hJ (Below.refl _ _) rfl
        refine Inv.from_cons _ _ _ _ rfl (fun _ a w hJ hF F K hK => ?_) ?_
        · have hz : a.tmps.size = 37 := hF.size
          have e29 : a.tmps[29]? = some (.pointer (some ⟨fb, 0, none⟩)) := Inv2.some_slot (by rw [hz]; exact Nat.le_of_ble_eq_true rfl) (F 0 (by kernel_rfl) 29 rfl)
          clear F hF hz
          go_simp
          exact hK (.pointer (some ⟨fb, 0, none⟩)) _ hJ (Below.refl _ _) rfl
        refine Inv.from_cons _ _ _ _ rfl (fun _ a w hJ hF F K hK => ?_) ?_
        · have hz : a.tmps.size = 37 := hF.size
          have e30 : a.tmps[30]? = some (.pointer (some ⟨fb, 0, none⟩)) := Inv2.some_slot (by rw [hz]; exact Nat.le_of_ble_eq_true rfl) (F 1 (by kernel_rfl) 30 rfl)
          clear F hF hz
          go_simp
          exact hK (.pointer (some ⟨fb, 0, none⟩)) _ hJ (Below.refl _ _) rfl
        refine Inv.from_cons _ _ _ _ rfl (fun _ a w hJ hF F K hK => ?_) ?_
        · have hz : a.tmps.size = 37 := hF.size
          have e31 : a.tmps[31]? = some (.pointer (some ⟨fb, 0, none⟩)) := Inv2.some_slot (by rw [hz]; exact Nat.le_of_ble_eq_true rfl) (F 2 (by kernel_rfl) 31 rfl)
          clear F hF hz
          have hh := HF.out _ hJ
          go_simp
          exact hK (.map (some gm)) _ hJ (Below.refl _ _) rfl
        refine Inv.from_cons _ _ _ _ rfl (fun _ a w hJ hF F K hK => ?_) ?_
        · have hz : a.tmps.size = 37 := hF.size
          have e5 : a.tmps[5]? = some (.pointer (some ⟨ob, 0, none⟩)) := Inv2.some_slot (by rw [hz]; exact Nat.le_of_ble_eq_true rfl) (hF.slot 5 (by kernel_rfl))
          clear F hF hz
          obtain ⟨d0, d1, d2⟩ := HO2.out _ hJ
          go_simp
          exact hK (.agg #[.string t.k, .string t.i, .string t.r]) _ hJ (Below.refl _ _) rfl
        refine Inv.from_cons _ _ _ _ rfl (fun _ a w hJ hF F K hK => ?_) ?_
        · have hz : a.tmps.size = 37 := hF.size
          have e32 : a.tmps[32]? = some (.map (some gm)) := Inv2.some_slot (by rw [hz]; exact Nat.le_of_ble_eq_true rfl) (F 3 (by kernel_rfl) 32 rfl)
          have e33 : a.tmps[33]? = some (.agg #[.string t.k, .string t.i, .string t.r]) := Inv2.some_slot (by rw [hz]; exact Nat.le_of_ble_eq_true rfl) (F 4 (by kernel_rfl) 33 rfl)
          clear F hF hz
          have hh := HL2.out _ hJ
          go_simp
          exact hK (.map (some gb)) _ hJ (Below.refl _ _) rfl
        refine Inv.from_cons _ _ _ _ rfl (fun _ a w hJ hF F K hK => ?_) ?_
        · have hz : a.tmps.size = 37 := hF.size
          have e3 : a.tmps[3]? = some (.pointer (some ⟨b, 0, none⟩)) := Inv2.some_slot (by rw [hz]; exact Nat.le_of_ble_eq_true rfl) (hF.slot 3 (by kernel_rfl))
          clear F hF hz
          obtain ⟨d0, d1, d2, d3, d4, d5⟩ := HC2.out _ hJ
          go_simp
          exact hK (.agg #[.string t.k, .string t.i, .string t.r, .string t.u.k, .string t.u.i, .string t.u.r]) _ hJ (Below.refl _ _) rfl
        refine Inv.from_cons _ _ _ _ rfl (fun _ a w hJ hF F K hK => ?_) ?_
        · have hz : a.tmps.size = 37 := hF.size
          clear F hF hz
          go_simp
          exact hK (.agg #[]) _ hJ (Below.refl _ _) rfl
        refine Inv.from_skip _ _ _ _ rfl ?_
        exact Inv.from_end _ _ _ _ (by decide +kernel)
      · intro o ho a w hJ hF F K hK
        injection (show some _ = some o from ho) with ho
        subst ho
        obtain ⟨f, hf⟩ : ∃ f : Nat → Value, ∀ i, a.tmps.getD i undef = f i := ⟨_, fun _ => rfl⟩
        have g0 : f 0 = (.pointer (some ⟨fb, 0, none⟩)) := (hf 0).symm.trans (hF.slot 0 (by kernel_rfl))
        have g3 : f 3 = (.pointer (some ⟨b, 0, none⟩)) := (hf 3).symm.trans (hF.slot 3 (by kernel_rfl))
        have g5 : f 5 = (.pointer (some ⟨ob, 0, none⟩)) := (hf 5).symm.trans (hF.slot 5 (by kernel_rfl))
        have g29 : f 29 = (.pointer (some ⟨fb, 0, none⟩)) := (hf 29).symm.trans (F 0 (by decide) 29 rfl)
        have g30 : f 30 = (.pointer (some ⟨fb, 0, none⟩)) := (hf 30).symm.trans (F 1 (by decide) 30 rfl)
        have g31 : f 31 = (.pointer (some ⟨fb, 0, none⟩)) := (hf 31).symm.trans (F 2 (by decide) 31 rfl)
        have g32 : f 32 = (.map (some gm)) := (hf 32).symm.trans (F 3 (by decide) 32 rfl)
        have g33 : f 33 = (.agg #[.string t.k, .string t.i, .string t.r]) := (hf 33).symm.trans (F 4 (by decide) 33 rfl)
        have g34 : f 34 = (.map (some gb)) := (hf 34).symm.trans (F 5 (by decide) 34 rfl)
        have g35 : f 35 = (.agg #[.string t.k, .string t.i, .string t.r, .string t.u.k, .string t.u.i, .string t.u.r]) := (hf 35).symm.trans (F 6 (by decide) 35 rfl)
        have g36 : f 36 = (.agg #[]) := (hf 36).symm.trans (F 7 (by decide) 36 rfl)
        have ha := Frames.frame (show a.tmps.size = 37 from hF.size) hF.defers hf (l := [f 0, f 1, f 2, f 3, f 4, f 5, f 6, f 7, f 8, f 9, f 10, f 11, f 12, f 13, f 14, f 15, f 16, f 17, f 18, f 19, f 20, f 21, f 22, f 23, f 24, f 25, f 26, f 27, f 28, f 29, f 30, f 31, f 32, f 33, f 34, f 35, f 36]) rfl
        simp only [g0, g3, g5, g29, g30, g31, g32, g33, g34, g35, g36] at ha
        clear F hF hf g0 g3 g5 g29 g30 g31 g32 g33 g34 g35 g36
        subst ha
        have hx := HX2.out.below hJ
        obtain ⟨o9, G9, hrun, hfx, hmem, hwn⟩ := Fx.add hx HOK.out HG.out HU.out HNT.out
        have HP := Lib.hid (show PutPost lo w0 fb gm G t (.returned (.bool true)) (setBlock w g.b o9) from ⟨G9, by rw [HOK.out, decide_eq_true HNA.out]; rfl, hfx, fun x => by rw [hmem x, HAL.out]; exact or_congr Iff.rfl ⟨fun q => ⟨q, HOK.out⟩, fun q => q.1⟩, ((HB3.out.trans HWN.out).trans (Wn.ofBelow hJ)).trans hwn⟩)
        rw [← HGB.out] at hrun
        unfold tc at hrun
        clear hx hfx hmem hwn hJ
        go_wp2_with fail
        go_ret
        rw [← HGB.out] at HP
        exact HP.out
      · intro hq; exact absurd hq (by decide +kernel)
end Go.Proofs.YtilcnhdfdgmekaaGreat.FactsPut
