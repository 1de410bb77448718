/- The program's calls, as the tuple laws use them: of what may be, and of what may not. -/
import Derived.Test.YtpiojnphbanggaaTupleEq
namespace Go.Proofs.Ytpiojnphbanggaa.TupleUse
open Go.RowKit Base KeyPlain TuplePlain TupleRef TupleSpec TupleEq

theorem str_bl (l : List UInt8) : bl ⟨l.toArray⟩ = l := by simp [bl]
/-- a tuple's, a user's box -/
def Tb (w : World) (b : Nat) (t : Tp) : Prop := w.heap[b]? = some (.cells (tc t) 25 (0, 0))
def Ub (w : World) (b : Nat) (u : Us) : Prop := w.heap[b]? = some (.cells (uc u) 23 (0, 0))
section
variable {w w' : World} {b : Nat} {t : Tp} {u : Us}
theorem Tb.below (h : Tb w b t) (hb : Below w.heap.size w w') : Tb w' b t := (hb.block b (Array.getElem?_eq_some_iff.1 h).1).trans h
theorem Ub.below (h : Ub w b u) (hb : Below w.heap.size w w') : Ub w' b u := (hb.block b (Array.getElem?_eq_some_iff.1 h).1).trans h
theorem Tb.new (w : World) (t : Tp) : Tb (w.alloc (.cells (tc t) 25)) w.heap.size t := heap_alloc_new w _
theorem Ub.new (w : World) (u : Us) : Ub (w.alloc (.cells (uc u) 23)) w.heap.size u := heap_alloc_new w _
theorem Tb.six (h : Tb w b t) : w.cell? ⟨b, 0, none⟩ = some (.string t.k) ∧ w.cell? ⟨b, 1, none⟩ = some (.string t.i) ∧ w.cell? ⟨b, 2, none⟩ = some (.string t.r) ∧ w.cell? ⟨b, 3, none⟩ = some (.string t.u.k) ∧ w.cell? ⟨b, 4, none⟩ = some (.string t.u.i) ∧ w.cell? ⟨b, 5, none⟩ = some (.string t.u.r) := six_at h
theorem Ub.three (h : Ub w b u) : w.cell? ⟨b, 0, none⟩ = some (.string u.k) ∧ w.cell? ⟨b, 1, none⟩ = some (.string u.i) ∧ w.cell? ⟨b, 2, none⟩ = some (.string u.r) := by
  unfold Ub uc at h
  refine ⟨?_, ?_, ?_⟩ <;> (simp only [World.cell?, h]; rfl)
end
theorem us_len {u : Us} (h : UsF u) : u.show.length ≤ 4000000 := by
  obtain ⟨h1, h2, h3⟩ := h
  unfold Us.show
  split <;> simp only [List.length_append, List.length_cons, List.length_nil, bl_size] <;> omega
theorem tp_len {t : Tp} (h : t.ok = true) : t.show.length ≤ 1000000 := by
  obtain ⟨a1, a2, a3, a4⟩ := t.okE h
  obtain ⟨b1, b2, b3⟩ := Us.okE a4
  have k1 := (name_len a1).2; have k2 := (id_len a2).2; have k3 := (name_len a3).2
  have k4 := (name_len b1).2; have k5 := (id_len b2).2; have k6 := rel_len b3
  rw [bl_size] at k1 k2 k3 k4 k5
  unfold Tp.show Us.show
  split <;> simp only [List.length_append, List.length_cons, List.length_nil, bl_size] <;> omega
theorem us_len2 {u : Us} (h : u.ok = true) : u.show.length ≤ 1000000 := by
  obtain ⟨b1, b2, b3⟩ := Us.okE h
  have k4 := (name_len b1).2; have k5 := (id_len b2).2; have k6 := rel_len b3
  rw [bl_size] at k4 k5
  unfold Us.show
  split <;> simp only [List.length_append, List.length_cons, List.length_nil, bl_size] <;> omega
section
variable (X : Specs) {t : Tp} {u : Us} (w : World)
include X
theorem show_yes (ht : TpF t) (h : t.ok = true) : Calls Try.prog 13 #[.agg (tc t)] w fun e w' => e = .returned (.tuple #[.string ⟨t.show.toArray⟩, .int .i64 0]) ∧ Below w.heap.size w w' :=
  (X.show_ t w ht).mono fun e w' q => ⟨by rw [q.1]; unfold okS okE; rw [h]; rfl, q.2⟩
theorem show_no (ht : TpF t) (h : t.ok = false) : Calls Try.prog 13 #[.agg (tc t)] w fun e w' => e = .returned (.tuple #[.string ⟨#[]⟩, .int .i64 111]) ∧ Below w.heap.size w w' :=
  (X.show_ t w ht).mono fun e w' q => ⟨by rw [q.1]; unfold okS okE; rw [h]; rfl, q.2⟩
theorem showUser_yes (hu : UsF u) (h : u.ok = true) : Calls Try.prog 14 #[.agg (uc u)] w fun e w' => e = .returned (.tuple #[.string ⟨u.show.toArray⟩, .int .i64 0]) ∧ Below w.heap.size w w' :=
  (X.showUser u w hu).mono fun e w' q => ⟨by rw [q.1]; unfold okS okE; rw [h]; rfl, q.2⟩
theorem showUser_no (hu : UsF u) (h : u.ok = false) : Calls Try.prog 14 #[.agg (uc u)] w fun e w' => e = .returned (.tuple #[.string ⟨#[]⟩, .int .i64 111]) ∧ Below w.heap.size w w' :=
  (X.showUser u w hu).mono fun e w' q => ⟨by rw [q.1]; unfold okS okE; rw [h]; rfl, q.2⟩
theorem check_yes (ht : TpF t) (h : t.ok = true) : Calls Try.prog 15 #[.agg (tc t)] w fun e w' => e = .returned (.int .i64 0) ∧ Below w.heap.size w w' :=
  (X.check t w ht).mono fun e w' q => ⟨by rw [q.1]; unfold okE; rw [h]; rfl, q.2⟩
theorem check_no (ht : TpF t) (h : t.ok = false) : Calls Try.prog 15 #[.agg (tc t)] w fun e w' => e = .returned (.int .i64 111) ∧ Below w.heap.size w w' :=
  (X.check t w ht).mono fun e w' q => ⟨by rw [q.1]; unfold okE; rw [h]; rfl, q.2⟩
theorem key_yes (ht : TpF t) (h : t.ok = true) : Calls Try.prog 26 #[.agg (tc t)] w fun e w' => e = .returned (.tuple #[.string ⟨t.key.toArray⟩, .int .i64 0]) ∧ Below w.heap.size w w' :=
  (X.key t w ht).mono fun e w' q => ⟨by rw [q.1]; unfold okS okE; rw [h]; rfl, q.2⟩
theorem key_no (ht : TpF t) (h : t.ok = false) : Calls Try.prog 26 #[.agg (tc t)] w fun e w' => e = .returned (.tuple #[.string ⟨#[]⟩, .int .i64 111]) ∧ Below w.heap.size w w' :=
  (X.key t w ht).mono fun e w' q => ⟨by rw [q.1]; unfold okS okE; rw [h]; rfl, q.2⟩
theorem back_yes (ht : TpF t) (h : t.ok = true) : Calls Try.prog 27 #[.agg (tc t)] w fun e w' => e = .returned (.tuple #[.string ⟨t.back.toArray⟩, .int .i64 0]) ∧ Below w.heap.size w w' :=
  (X.back t w ht).mono fun e w' q => ⟨by rw [q.1]; unfold okS okE; rw [h]; rfl, q.2⟩
theorem back_no (ht : TpF t) (h : t.ok = false) : Calls Try.prog 27 #[.agg (tc t)] w fun e w' => e = .returned (.tuple #[.string ⟨#[]⟩, .int .i64 111]) ∧ Below w.heap.size w w' :=
  (X.back t w ht).mono fun e w' q => ⟨by rw [q.1]; unfold okS okE; rw [h]; rfl, q.2⟩
theorem readUser_yes (h : u.ok = true) : Calls Try.prog 17 #[.string ⟨u.show.toArray⟩] w fun e w' => e = .returned (.tuple #[.agg (uc u), .int .i64 0]) ∧ Below w.heap.size w w' := by
  refine (X.readUser _ w (by show u.show.toArray.size ≤ _; rw [List.size_toArray]; exact us_len2 h)).mono ?_
  rintro e w' ⟨o, ho, rfl, hb⟩
  rw [str_bl] at ho
  rw [RdU.shown h ho]
  exact ⟨rfl, hb⟩
theorem read_yes (h : t.ok = true) : Calls Try.prog 20 #[.string ⟨t.show.toArray⟩] w fun e w' => e = .returned (.tuple #[.agg (tc t), .int .i64 0]) ∧ Below w.heap.size w w' := by
  refine (X.read _ w (by show t.show.toArray.size ≤ _; rw [List.size_toArray]; exact tp_len h)).mono ?_
  rintro e w' ⟨o, ho, rfl, hb⟩
  rw [str_bl] at ho
  rw [RdT.shown h ho]
  exact ⟨rfl, hb⟩
theorem ofKey_yes (h : t.ok = true) : Calls Try.prog 28 #[.string ⟨t.key.toArray⟩] w fun e w' => e = .returned (.tuple #[.agg (tc t), .bool false, .int .i64 0]) ∧ Below w.heap.size w w' := by
  refine (X.ofKey _ w (by show t.key.toArray.size ≤ _; rw [List.size_toArray]; have := (t.key_len h).1; omega)).mono ?_
  rintro e w' ⟨o, ho, rfl, hb⟩
  rw [str_bl] at ho
  rw [RdK.key h ho]
  exact ⟨rfl, hb⟩
theorem ofBack_yes (h : t.ok = true) : Calls Try.prog 28 #[.string ⟨t.back.toArray⟩] w fun e w' => e = .returned (.tuple #[.agg (tc t), .bool true, .int .i64 0]) ∧ Below w.heap.size w w' := by
  refine (X.ofKey _ w (by show t.back.toArray.size ≤ _; rw [List.size_toArray]; have := t.key_len h; omega)).mono ?_
  rintro e w' ⟨o, ho, rfl, hb⟩
  rw [str_bl] at ho
  rw [RdK.back h ho]
  exact ⟨rfl, hb⟩
end
end Go.Proofs.Ytpiojnphbanggaa.TupleUse
