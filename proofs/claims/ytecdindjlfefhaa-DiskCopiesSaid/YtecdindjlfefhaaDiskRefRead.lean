/- The document's disk in memory; its Read. -/
import Derived.Test.YtecdindjlfefhaaDiskRef
namespace Go.Proofs.Ytecdindjlfefhaa.DiskRefRead
open Go.RowKit Base DiskPlain DiskMem DiskSmall DiskRead DiskGrow DiskWrite DiskSync DiskCrash DiskSpoil DiskCopy DiskLaw DiskDo DiskPlumb DiskTwo DiskGrows DiskSim DiskSyncs DiskRef Go.Maps

def lastStr (L : List Pg) : List Value := (L.map tx).map .string
def looseStr (l : List (Nat × Pg)) : List Value := (l.map fun x => [Value.int .i64 (x.1 : Int), Value.string (tx x.2)]).flatten
theorem looseStr_each (l : List (Nat × Pg)) : ∀ b ∈ (l.map fun x => [Value.int .i64 (x.1 : Int), Value.string (tx x.2)]), b.length = 2 := by
  intro b hb
  obtain ⟨x, _, rfl⟩ := List.mem_map.1 hb
  rfl
theorem looseStr_len (l : List (Nat × Pg)) : (looseStr l).length = l.length * 2 := by rw [looseStr, flat_len 2 _ (looseStr_each l)]; simp
theorem looseStr_at {l : List (Nat × Pg)} {j : Nat} {x : Nat × Pg} (hx : l[j]? = some x) : (looseStr l)[j * 2]? = some (.int .i64 (x.1 : Int)) ∧ (looseStr l)[j * 2 + 1]? = some (.string (tx x.2)) := by
  have e0 := flat_at 2 _ (looseStr_each l) j 0 [Value.int .i64 (x.1 : Int), Value.string (tx x.2)] (by simp [hx]) (by omega)
  have e1 := flat_at 2 _ (looseStr_each l) j 1 [Value.int .i64 (x.1 : Int), Value.string (tx x.2)] (by simp [hx]) (by omega)
  exact ⟨by unfold looseStr; simpa using e0, by unfold looseStr; simpa using e1⟩
theorem looseStr_one (l : List (Nat × Pg)) : ∀ u ∈ looseStr l, u.oneCell' = true := by
  intro u hu
  obtain ⟨c, hc, hu⟩ := List.mem_flatten.1 hu
  obtain ⟨x, _, rfl⟩ := List.mem_map.1 hc
  rcases List.mem_cons.1 hu with rfl | hu
  · rfl
  · rcases List.mem_cons.1 hu with rfl | hu
    · rfl
    · cases hu
/-- the document's disk S: its rows, in blocks of R, and its fuse -/
structure RefP (w : World) (S : DS) (A1 A2 : Option Addr) (f : Int) (R : Nat → Prop) : Prop where
  la : RowR w R A1 (lastStr S.last)
  lo : RowR w R A2 (looseStr S.loose)
  fu : S.fused = true → f = S.left
theorem RefP.turn {w w' : World} {S : DS} {A1 A2 : Option Addr} {f : Int} {R F : Nat → Prop} (h : RefP w S A1 A2 f R) (ht : Turn F w w') (hd : ∀ i, R i → ¬ F i) : RefP w' S A1 A2 f R := ⟨h.la.turn ht hd, h.lo.turn ht hd, h.fu⟩
theorem RefP.below {w w' : World} {S : DS} {A1 A2 : Option Addr} {f : Int} {R : Nat → Prop} (h : RefP w S A1 A2 f R) (hb : Below w.heap.size w w') : RefP w' S A1 A2 f R := ⟨h.la.below hb, h.lo.below hb, h.fu⟩
theorem RefP.mono {w : World} {S : DS} {A1 A2 : Option Addr} {f : Int} {R Q : Nat → Prop} (h : RefP w S A1 A2 f R) (hQ : ∀ i, R i → i < w.heap.size → Q i) : RefP w S A1 A2 f Q := ⟨h.la.mono hQ, h.lo.mono hQ, h.fu⟩
/-- a cell of a row, by its address -/
theorem row_at {w : World} {R : Nat → Prop} {A : Option Addr} {vs : List Value} (h : RowR w R A vs) (hn : 0 < vs.length) : ∃ ab ao, A = some ⟨ab, ao, none⟩ ∧ ab < w.heap.size ∧ ∀ k v, vs[k]? = some v → w.cell? ⟨ab, ao + k, none⟩ = some v := by
  obtain ⟨ad, e, _, h1, h2⟩ := h 0 _ (List.getElem?_eq_getElem hn)
  have hs := spot_none (j := 0) h2 (.inl rfl)
  refine ⟨ad.block, ad.off, by rw [e]; exact congrArg some hs, h1, fun k v hv => ?_⟩
  obtain ⟨ad', e', _, _, h3⟩ := h k v hv
  rw [e] at e'
  injection e' with e'
  subst e'
  rw [hs, add_blk] at h3
  exact h3
theorem idx_last {A : Option Addr} {ab ao n c j : Nat} (hA : A = some ⟨ab, ao, none⟩) (hj : j < n) (w : World) : (Instr.indexAt 28 (.slice A n c) (.int .i64 (j : Int))).run Try.prog w = .ok (.pointer (some ⟨ab, ao + j, none⟩)) w := by
  subst hA
  have h2 : (j : Int) < n := by omega
  go_simp
theorem idx_loose {A : Option Addr} {ab ao n c j : Nat} (hA : A = some ⟨ab, ao, none⟩) (hj : j < n) (w : World) : (Instr.indexAt 29 (.slice A n c) (.int .i64 (j : Int))).run Try.prog w = .ok (.pointer (some ⟨ab, ao + j * 2, none⟩)) w := by
  subst hA
  have h2 : (j : Int) < n := by omega
  go_simp
section
variable {w : World} {S : DS} {A1 A2 : Option Addr} {c1 c2 : Nat} {f : Int} {R : Nat → Prop}
theorem rread_no (p : Int) (hp : S.has p = false) (_hl : S.last.length ≤ 4096) : Calls Try.prog 32 #[.agg #[.int .i64 S.most, .slice A1 S.last.length c1, .slice A2 S.loose.length c2, .bool S.fused, .int .i64 f], .int .i64 p] w fun e w' => e = .returned (.tuple #[.string ⟨#[]⟩, .int .i64 30]) ∧ Below w.heap.size w w' := by
  have hn : p < 0 ∨ (0 ≤ p ∧ (S.last.length : Int) ≤ p) := by simp [DS.has] at hp; omega
  clear hp
  generalize S.last.length = n at *
  rcases hn with h0 | ⟨h0, h1⟩
  · go_enter Try.func32, Try.ntmps32
    go_wp2_with fail
    go_ret2
    exact ⟨rfl, (Below.refl _ _).alloc (Nat.le_refl _) _⟩
  · go_enter Try.func32, Try.ntmps32
    go_wp2_with fail
    go_ret2
    exact ⟨rfl, (Below.refl _ _).alloc (Nat.le_refl _) _⟩
def RdRel (l : List (Nat × Pg)) (p : Nat) (s0 : Pg) (o i : Value) : Prop := ∃ k : Nat, k ≤ l.length ∧ i = .int .i64 k ∧ o = .string (tx (over (l.take k) p s0))
theorem over_take {l : List (Nat × Pg)} {k : Nat} {x : Nat × Pg} (hx : l[k]? = some x) (p : Nat) (s : Pg) : over (l.take (k + 1)) p s = if x.1 = p then x.2 else over (l.take k) p s := by
  have hj : k < l.length := (List.getElem?_eq_some_iff.1 hx).1
  rw [List.take_succ_eq_append_getElem hj, (List.getElem?_eq_some_iff.1 hx).2]
  simp [over]
set_option maxRecDepth 100000 in
theorem rread_any (h : RefP w S A1 A2 f R) (p : Nat) (hp : p < S.last.length) (hl : S.last.length ≤ 4096) (hll : S.loose.length ≤ 100000000) : Calls Try.prog 32 #[.agg #[.int .i64 S.most, .slice A1 S.last.length c1, .slice A2 S.loose.length c2, .bool S.fused, .int .i64 f], .int .i64 (p : Int)] w fun e w' => e = .returned (.tuple #[.string (tx (S.rd p)), .int .i64 0]) ∧ Below w.heap.size w w' := by
  have hb : Below w.heap.size w (w.alloc (.cells #[.int .i64 S.most, .slice A1 S.last.length c1, .slice A2 S.loose.length c2, .bool S.fused, .int .i64 f] 31)) := (Below.refl _ _).alloc (Nat.le_refl _) _
  have h' := h.below hb
  obtain ⟨ab, ao, hA1, hab, hc1⟩ := row_at h'.la (by simp [lastStr]; omega)
  have hcp := hc1 p (.string (tx (S.last.getD p []))) (by simp [lastStr, List.getElem?_eq_getElem hp])
  have hi1 := idx_last (n := S.last.length) (c := c1) hA1 hp
  have HA1 := Lib.hid hA1
  have HLO := Lib.hid h'.lo
  have HR := Lib.hid (show RdRel S.loose p (S.last.getD p []) (.string (tx (S.last.getD p []))) (.int .i64 0) from ⟨0, by omega, rfl, rfl⟩)
  have HE := Lib.hid (show over (S.loose.take S.loose.length) p (S.last.getD p []) = S.rd p by rw [List.take_length]; rfl)
  have HB := Lib.hid hb
  clear hA1 hc1 h h' hb
  generalize S.last.getD p [] = s0 at *
  generalize hw1 : w.alloc (.cells #[.int .i64 S.most, .slice A1 S.last.length c1, .slice A2 S.loose.length c2, .bool S.fused, .int .i64 f] 31) = w1 at *
  subst hw1
  go_enter Try.func32, Try.ntmps32
  go_wp2_with fail
  go_loop [6, 7] (fun o i => RdRel S.loose p s0 o i) (fun _ i => S.loose.length - (intOf i).toNat)
  case atStart => exact HR.out
  case round =>
    obtain ⟨k, hk, rfl, rfl⟩ := hrel
    clear HR
    by_cases hlt : k < S.loose.length
    · obtain ⟨⟨x, y⟩, hx⟩ : ∃ x, S.loose[k]? = some x := ⟨_, List.getElem?_eq_getElem hlt⟩
      obtain ⟨bb, bo, hA2, hbb, hc2⟩ := row_at HLO.out (by rw [looseStr_len]; omega)
      have q0 := hc2 _ _ (looseStr_at hx).1
      have q1 := hc2 _ _ (looseStr_at hx).2
      rw [← Nat.add_assoc] at q1
      have hi2 := idx_loose (n := S.loose.length) (c := c2) hA2 hlt
      have HA2 := Lib.hid hA2
      have HN := Lib.hid (over_take hx p s0)
      clear hA2 hc2 hx
      by_cases hxp : x = p
      · subst hxp
        have HN2 := Lib.hid (show over (S.loose.take (k + 1)) x s0 = y by rw [HN.out]; simp)
        go_wp2_with fail
        go_round
        case rel => exact ⟨k + 1, by omega, by go_num, by rw [HN2.out]⟩
        case measure => simp [intOf]; omega
      · have hbq : (((x : Nat) : Int) == ((p : Nat) : Int)) = false := beq_eq_false_iff_ne.2 (by omega)
        have HN2 := Lib.hid (show over (S.loose.take (k + 1)) p s0 = over (S.loose.take k) p s0 by rw [HN.out]; simp [hxp])
        have HX := Lib.hid hxp
        clear hxp
        go_wp2_with fail
        go_round
        case rel => exact ⟨k + 1, by omega, by go_num, by rw [HN2.out]⟩
        case measure => simp [intOf]; omega
    · obtain rfl : k = S.loose.length := by omega
      rw [HE.out]
      go_wp2_with fail
      go_ret2
      exact ⟨rfl, HB.out⟩
end
end Go.Proofs.Ytecdindjlfefhaa.DiskRefRead
