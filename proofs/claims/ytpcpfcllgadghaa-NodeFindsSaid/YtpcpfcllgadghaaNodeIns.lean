/- The document's Put and Drop, item by item: plain facts. -/
import Derived.Test.YtpcpfcllgadghaaNodeGot
import Derived.Test.YtpcpfcllgadghaaNodeDuo
namespace Go.Proofs.Ytpcpfcllgadghaa.NodeIns
open Go.RowKit Base NodePlain NodeRead NodeSlice NodeCheck NodeBox NodeLeaf NodeStore NodeWant NodeDuo

theorem ins_all {k v : ByteArray} : ∀ {t : Ps} (s : Ps), (∀ p ∈ t, less p.1 k = true) → ins k v (t ++ s) = t ++ ins k v s
  | [], _, _ => rfl
  | p :: t, s, h => by
    have h1 := h p (by simp)
    have ih := ins_all (v := v) (t := t) s fun q hq => h q (by simp [hq])
    simp only [List.cons_append, ins, h1, if_true, ih]
theorem ins_some {k v : ByteArray} : ∀ {t : Ps} (s : Ps), (∃ p ∈ t, less p.1 k = false) → ins k v (t ++ s) = ins k v t ++ s
  | [], _, h => by obtain ⟨p, hp, _⟩ := h; cases hp
  | p :: t, s, h => by
    cases h1 : less p.1 k with
    | true =>
      have ih := ins_some (k := k) (v := v) (t := t) s (by
        obtain ⟨q, hq, e⟩ := h
        rcases List.mem_cons.1 hq with rfl | hq
        · rw [h1] at e; cases e
        · exact ⟨q, hq, e⟩)
      simp only [List.cons_append, ins, h1, if_true, ih]
    | false =>
      simp only [List.cons_append, ins, h1, Bool.false_eq_true, if_false]
      split <;> rfl
/-- what the loop of Put has behind some items: d tells whether the key is in -/
def Acc (k v : ByteArray) (t : Ps) (d : Bool) (acc : Ps) : Prop := (d = false → (∀ p ∈ t, less p.1 k = true) ∧ acc = t) ∧ (d = true → (∃ p ∈ t, less p.1 k = false) ∧ acc = ins k v t)
theorem acc_nil (k v : ByteArray) : Acc k v [] false [] := ⟨fun _ => ⟨fun _ h => (by cases h), rfl⟩, fun h => (by cases h)⟩
theorem Acc.len {k v : ByteArray} {t : Ps} {d : Bool} {acc : Ps} (h : Acc k v t d acc) : acc.length ≤ t.length + 1 := by
  cases d with
  | false => rw [(h.1 rfl).2]; omega
  | true => rw [(h.2 rfl).2]; exact ins_len k v t
theorem acc_lt {k v : ByteArray} {t acc : Ps} {p : ByteArray × ByteArray} (h : Acc k v t false acc) (hp : less p.1 k = true) : Acc k v (t ++ [p]) false (acc ++ [p]) := by
  obtain ⟨h1, rfl⟩ := h.1 rfl
  refine ⟨fun _ => ⟨fun q hq => ?_, rfl⟩, fun h => (by cases h)⟩
  rcases List.mem_append.1 hq with hq | hq
  · exact h1 q hq
  · rw [List.mem_singleton.1 hq]; exact hp
theorem acc_eq {k v : ByteArray} {t acc : Ps} {p : ByteArray × ByteArray} (h : Acc k v t false acc) (hp : less p.1 k = false) (he : p.1 = k) : Acc k v (t ++ [p]) true (acc ++ [(k, v)]) := by
  obtain ⟨h1, rfl⟩ := h.1 rfl
  refine ⟨fun h => (by cases h), fun _ => ⟨⟨p, by simp, hp⟩, ?_⟩⟩
  rw [ins_all _ h1]
  simp [ins, he, less_irrefl]
theorem acc_gt {k v : ByteArray} {t acc : Ps} {p : ByteArray × ByteArray} (h : Acc k v t false acc) (hp : less p.1 k = false) (he : p.1 ≠ k) : Acc k v (t ++ [p]) true (acc ++ [(k, v)] ++ [p]) := by
  obtain ⟨h1, rfl⟩ := h.1 rfl
  refine ⟨fun h => (by cases h), fun _ => ⟨⟨p, by simp, hp⟩, ?_⟩⟩
  rw [ins_all _ h1]
  simp [ins, hp, he]
theorem acc_in {k v : ByteArray} {t acc : Ps} {p : ByteArray × ByteArray} (h : Acc k v t true acc) : Acc k v (t ++ [p]) true (acc ++ [p]) := by
  obtain ⟨⟨q, hq, h1⟩, rfl⟩ := h.2 rfl
  exact ⟨fun h => (by cases h), fun _ => ⟨⟨q, by simp [hq], h1⟩, (ins_some _ ⟨q, hq, h1⟩).symm⟩⟩
/-- behind the key no item is the key's -/
theorem acc_ne {k v : ByteArray} {t acc : Ps} {p : ByteArray × ByteArray} (h : Acc k v t true acc) (hu : Up (ks (t ++ [p]))) : p.1 ≠ k := by
  obtain ⟨⟨q, hq, h1⟩, _⟩ := h.2 rfl
  rintro rfl
  have h2 : less q.1 p.1 = true := by
    have hp : List.Pairwise (fun a b => less a b = true) (ks t ++ [p.1]) := by have := hu; unfold Up ks at this; simpa [ks] using this
    exact (List.pairwise_append.1 hp).2.2 q.1 (List.mem_map_of_mem hq) p.1 (by simp)
  rw [h2] at h1
  cases h1
theorem acc_end {k v : ByteArray} {t acc : Ps} (h : Acc k v t false acc) : acc ++ [(k, v)] = ins k v t := by
  obtain ⟨h1, rfl⟩ := h.1 rfl
  have := ins_all (v := v) [] h1
  rw [List.append_nil] at this
  rw [this]
  rfl
theorem acc_end' {k v : ByteArray} {t acc : Ps} (h : Acc k v t true acc) : acc = ins k v t := (h.2 rfl).2
theorem del_in {k : ByteArray} {t : Ps} {p : ByteArray × ByteArray} (h : p.1 ≠ k) : del k (t ++ [p]) = del k t ++ [p] := by simp [del, h]
theorem del_out {k : ByteArray} {t : Ps} {p : ByteArray × ByteArray} (h : p.1 = k) : del k (t ++ [p]) = del k t := by simp [del, h]
/-- the node that is made: its pairs so far -/
def Out (gw : Nat) (W1 : World) (acc : Ps) (w : World) : Prop := ∃ K kc X xc, Wn gw #[.bool true, .slice K acc.length kc, .slice X acc.length xc, .slice none 0 0] 9 9 K kc (strs (ks acc)) X xc (strs (vs acc)) W1 w
theorem Out.below {gw : Nat} {W1 w w' : World} {acc : Ps} (h : Out gw W1 acc w) (hb : Below w.heap.size w w') : Out gw W1 acc w' := by
  obtain ⟨K, kc, X, xc, h⟩ := h
  exact ⟨K, kc, X, xc, h.below hb⟩
theorem Out.b {gw : Nat} {W1 w : World} {acc : Ps} (h : Out gw W1 acc w) : Below gw W1 w := by
  obtain ⟨K, kc, X, xc, h⟩ := h
  exact h.b
theorem out_new (W1 : World) : Out W1.heap.size W1 [] (W1.alloc (.cells #[.bool true, .slice none 0 0, .slice none 0 0, .slice none 0 0] 25)) := ⟨none, 0, none, 0, Wn.new W1 _ _ _⟩
theorem out_step {gw : Nat} {W1 w : World} {acc : Ps} {K' X' : Option Addr} {kc' xc' n m : Nat} {p : ByteArray × ByteArray} (hn : n = acc.length) (hm : m = acc.length) (h : Wn gw #[.bool true, .slice K' (n + 1) kc', .slice X' (m + 1) xc', .slice none 0 0] 9 9 K' kc' (strs (ks acc) ++ [.string p.1]) X' xc' (strs (vs acc) ++ [.string p.2]) W1 w) : Out gw W1 (acc ++ [p]) w := by
  subst hn hm
  refine ⟨K', kc', X', xc', ?_⟩
  have e1 : (acc ++ [p]).length = acc.length + 1 := by simp
  have e2 : strs (ks (acc ++ [p])) = strs (ks acc) ++ [.string p.1] := by simp [strs, ks]
  have e3 : strs (vs (acc ++ [p])) = strs (vs acc) ++ [.string p.2] := by simp [strs, vs]
  rw [e1, e2, e3]
  exact h
/-- the node made, as a value -/
theorem out_nvo {gw : Nat} {W1 w : World} {acc : Ps} {K X : Option Addr} {kc xc : Nat} (h : Wn gw #[.bool true, .slice K acc.length kc, .slice X acc.length xc, .slice none 0 0] 9 9 K kc (strs (ks acc)) X xc (strs (vs acc)) W1 w) : NvO (gw + 1) (lfn acc) (.agg #[.bool true, .slice K acc.length kc, .slice X acc.length xc, .slice none 0 0]) w :=
  ⟨_, _, _, rfl, own_slo h.k _ (by simp [strs, ks]), own_slo h.x _ (by simp [strs, vs]), slo_none⟩
/-- the lists under names -/
theorem Out.gen {gw : Nat} {W1 w : World} {acc : Ps} (h : Out gw W1 acc w) : ∃ KA kca XA xca SK SX, Wn gw #[.bool true, .slice KA SK.length kca, .slice XA SX.length xca, .slice none 0 0] 9 9 KA kca SK XA xca SX W1 w ∧ SK = strs (ks acc) ∧ SX = strs (vs acc) := by
  obtain ⟨K, kc, X, xc, h⟩ := h
  refine ⟨K, kc, X, xc, _, _, ?_, rfl, rfl⟩
  rw [show (strs (ks acc)).length = acc.length by simp [strs, ks], show (strs (vs acc)).length = acc.length by simp [strs, vs]]
  exact h
theorem out_fin {gw : Nat} {W1 w : World} {acc : Ps} {SK SX : List Value} {K' X' : Option Addr} {kc' xc' : Nat} {a b : ByteArray} (h1 : SK = strs (ks acc)) (h2 : SX = strs (vs acc)) (h : Wn gw #[.bool true, .slice K' (SK.length + 1) kc', .slice X' (SX.length + 1) xc', .slice none 0 0] 9 9 K' kc' (SK ++ [.string a]) X' xc' (SX ++ [.string b]) W1 w) : Out gw W1 (acc ++ [(a, b)]) w := by
  subst h1 h2
  exact out_step (p := (a, b)) (by simp [strs, ks]) (by simp [strs, vs]) h
end Go.Proofs.Ytpcpfcllgadghaa.NodeIns
