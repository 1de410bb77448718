/- Two disks of which each page reads the same, whatever is loose. -/
import Derived.Test.YtecdindjlfefhaaDiskGrows
namespace Go.Proofs.Ytecdindjlfefhaa.DiskSim
open Go.RowKit Base DiskPlain DiskMem DiskSpoil DiskTwo DiskGrows

structure Sim (S T : DS) : Prop where
  len : S.last.length = T.last.length
  most : S.most = T.most
  fs : S.fused = false
  ft : T.fused = false
  rd : ∀ p, p < S.last.length → S.rd p = T.rd p
theorem dead_no {S : DS} (h : S.fused = false) : S.dead = false := by simp [DS.dead, h]
theorem burn_no {S : DS} (h : S.fused = false) : S.burn = S := by simp [DS.burn, h]
theorem rd_written (S : DS) (p q : Nat) (b : Pg) : (S.written p b).rd q = if p = q then b else S.rd q := by
  simp only [DS.rd, DS.written, over, List.foldl_append, List.foldl_cons, List.foldl_nil]
theorem flush_rd (q : Nat) : ∀ (l : List (Nat × Pg)) (L : List Pg), q < L.length → (flush L l).getD q [] = over l q (L.getD q [])
  | [], L, _ => rfl
  | x :: l, L, h => by
    have ih := flush_rd q l (L.set x.1 x.2) (by simpa using h)
    simp only [flush, over, List.foldl_cons] at ih ⊢
    rw [ih]
    congr 1
    simp only [List.getD_eq_getElem?_getD, List.getElem?_set]
    by_cases e : x.1 = q
    · subst e; simp [h]
    · simp [e]
theorem rd_synced (S : DS) (q : Nat) (h : q < S.last.length) : S.synced.rd q = S.rd q := flush_rd q S.loose S.last h
theorem over_spf_same (p a : Nat) (b : Pg) : ∀ (l : List (Nat × Pg)) (s : Pg), over (l.map fun x => if x.1 = p then (x.1, splice x.2 a b) else x) p (splice s a b) = splice (over l p s) a b
  | [], s => rfl
  | x :: l, s => by
    have ih := over_spf_same p a b l
    simp only [over, List.map_cons, List.foldl_cons] at ih ⊢
    by_cases e : x.1 = p
    · simp only [e, if_true]; exact ih _
    · simp only [e, if_false]; exact ih _
theorem over_spf_other (p a q : Nat) (b : Pg) (hq : q ≠ p) : ∀ (l : List (Nat × Pg)) (s : Pg), over (l.map fun x => if x.1 = p then (x.1, splice x.2 a b) else x) q s = over l q s
  | [], s => rfl
  | x :: l, s => by
    have ih := over_spf_other p a q b hq l
    simp only [over, List.map_cons, List.foldl_cons] at ih ⊢
    by_cases e : x.1 = p
    · simp only [e, if_true]
      rw [if_neg (fun h => hq h.symm), if_neg (fun h => hq h.symm)]
      exact ih _
    · simp only [e, if_false]; exact ih _
theorem rd_spoilt (S : DS) (p a q : Nat) (b : Pg) (hp : p < S.last.length) : (S.spoilt p a b).rd q = if q = p then splice (S.rd p) a b else S.rd q := by
  simp only [DS.rd, DS.spoilt, List.getD_eq_getElem?_getD, List.getElem?_set]
  by_cases e : q = p
  · subst e
    rw [if_pos rfl, if_pos rfl, if_pos hp, Option.getD_some, over_spf_same]
  · rw [if_neg e, if_neg (fun h => e h.symm), over_spf_other p a q b e]
theorem sim_refl {S : DS} (h : S.fused = false) : Sim S S := ⟨rfl, rfl, h, h, fun _ _ => rfl⟩
theorem sim_sync {S T : DS} (h : Sim S T) : Sim S T.sync := by
  unfold DS.sync
  rw [dead_no h.ft, if_neg (by simp), burn_no (by exact h.ft)]
  refine ⟨by simp [DS.synced, flush_len, h.len], h.most, h.fs, h.ft, fun p hp => ?_⟩
  rw [rd_synced T p (by rw [← h.len]; exact hp)]
  exact h.rd p hp
theorem sim_sync2 {S T : DS} (h : Sim S T) : Sim S.sync T.sync := by
  have h1 := sim_sync h
  unfold DS.sync
  rw [dead_no h.fs, if_neg (by simp), burn_no (by exact h.fs)]
  have e : S.synced.last.length = S.last.length := by simp [DS.synced, flush_len]
  refine ⟨by rw [e]; exact h1.len, h1.most, h.fs, h1.ft, fun p hp => ?_⟩
  rw [e] at hp
  rw [rd_synced S p hp]
  exact h1.rd p hp
theorem act0 (S : DS) {x : Ac} (k : x.kind = 0) : act S x = S.grow x.n ∧ actE S x = S.growE x.n := by simp [act, actE, k]
theorem act1 (S : DS) {x : Ac} (k : x.kind = 1) : act S x = S.write x.page x.b ∧ actE S x = S.writeE x.page x.b := by simp [act, actE, k]
theorem act2 (S : DS) {x : Ac} (k : x.kind = 2) : act S x = S.sync ∧ actE S x = 0 := by simp [act, actE, k]
theorem act4 (S : DS) {x : Ac} (k : x.kind = 4) : act S x = S.spoil x.page x.at_ x.b ∧ actE S x = S.spoilE x.page x.at_ x.b := by simp [act, actE, k]
theorem sim_act {S T : DS} (h : Sim S T) (hS : S.Ok) (hT : T.Ok) (x : Ac) (h3 : x.kind ≠ 3) (h6 : x.kind ≠ 6) : actE S x = actE T x ∧ Sim (act S x) (act T x) := by
  have hd1 := dead_no h.fs
  have hd2 := dead_no h.ft
  have hh : ∀ p, S.has p = T.has p := fun p => by simp [DS.has, h.len]
  by_cases k0 : x.kind = 0
  · rw [(act0 S k0).1, (act0 S k0).2, (act0 T k0).1, (act0 T k0).2]
    unfold DS.grow DS.growE
    rw [hd1, hd2, h.most]
    by_cases q : x.n > T.most
    · simp only [if_pos q]; exact ⟨trivial, h⟩
    · simp only [if_neg q]
      simp only [Bool.false_eq_true, if_false]
      refine ⟨trivial, ⟨by simp [DS.grown, h.len], h.most, h.fs, h.ft, fun p hp => ?_⟩⟩
      have e : (S.grown x.n).last.length = (T.grown x.n).last.length := by simp [DS.grown, h.len]
      rw [rd_grown hS, rd_grown hT, ← h.len, ← e]
      by_cases r : p < S.last.length
      · rw [if_pos r, if_pos r]; exact h.rd p r
      · rw [if_neg r, if_neg r, if_pos hp, if_pos hp]
  by_cases k1 : x.kind = 1
  · rw [(act1 S k1).1, (act1 S k1).2, (act1 T k1).1, (act1 T k1).2]
    unfold DS.write DS.writeE
    rw [hd1, hd2, hh]
    cases q : T.has x.page with
    | false => simp only [if_true]; exact ⟨trivial, h⟩
    | true =>
      simp only [Bool.true_eq_false, if_false, Bool.false_eq_true]
      by_cases r : x.b.length ≠ 256
      · simp only [if_pos r]; exact ⟨trivial, h⟩
      · simp only [if_neg r]
        refine ⟨trivial, ?_⟩
        rw [burn_no (by exact h.fs), burn_no (by exact h.ft)]
        refine ⟨h.len, h.most, h.fs, h.ft, fun p hp => ?_⟩
        rw [rd_written, rd_written]
        split
        · rfl
        · exact h.rd p hp
  by_cases k2 : x.kind = 2
  · rw [(act2 S k2).1, (act2 S k2).2, (act2 T k2).1, (act2 T k2).2]; exact ⟨rfl, sim_sync2 h⟩
  by_cases k4 : x.kind = 4
  · rw [(act4 S k4).1, (act4 S k4).2, (act4 T k4).1, (act4 T k4).2]
    unfold DS.spoil DS.spoilE
    rw [hh]
    cases q : T.has x.page with
    | false => simp only [if_true]; exact ⟨trivial, h⟩
    | true =>
      simp only [Bool.true_eq_false, if_false]
      by_cases r : x.at_ < 0 ∨ x.at_ > 256 - x.b.length
      · simp only [if_pos r]; exact ⟨trivial, h⟩
      · simp only [if_neg r]
        have hp := has_iff.1 q
        have hpS : x.page.toNat < S.last.length := by rw [h.len]; omega
        refine ⟨trivial, ⟨by simp [DS.spoilt, h.len], h.most, h.fs, h.ft, fun p hpp => ?_⟩⟩
        have hpp' : p < S.last.length := by simpa [DS.spoilt] using hpp
        rw [rd_spoilt S _ _ _ _ hpS, rd_spoilt T _ _ _ _ (by omega)]
        split
        · rw [h.rd _ hpS]
        · exact h.rd p hpp'
  · simp only [act, actE, k0, k1, k2, h3, k4, h6, if_false]; exact ⟨trivial, h⟩
end Go.Proofs.Ytecdindjlfefhaa.DiskSim
