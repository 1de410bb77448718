/- FreeCat, FreeSl, PagerFind. -/
import Derived.Test.YtpidnkfcccboaaaGreatKFreeCheck
import Derived.Lib.AppendZeros
import Derived.OwnWalk
namespace Go.Proofs.YtpidnkfcccboaaaGreat.FreeCat
open Go.RowKit Base FreePlain FreeMem

set_option maxRecDepth 100000 in
theorem grow_run (W : World) (n : Nat) (h0 : 0 < n) (hn : n ≤ 1000000) :
  ∃ c w', (Builtin.append_ #[31, 3] 31 #[.slice none 0 0, .int .i64 n]).run Tryz.prog W = .ok (.slice (some ⟨W.heap.size, 0, none⟩) n c) w' ∧ c ≤ 9223372036854775807 ∧ OwnF w' W.heap.size (some ⟨W.heap.size, 0, none⟩) c [] ∧ Below W.heap.size W w' := by
 obtain ⟨i, i1, i2, i3, i4⟩ := info_parts info_f
 have hr := Lib.run_append_nil_zeros (P := Tryz.prog) W 31 3 31 66 i _ .i64 .i64 under_f Tryz.underlying3 i1 i2 n h0 (by omega) (by omega) (by rw [i4]; omega)
 have hc := grownCap_le_maxLen W n 0 66 (by simp [maxLen]; omega)
 have hg := grownCap_ge W n 0 66
 refine ⟨_, _, hr, by simpa [maxLen] using hc, ⟨rfl, .inr ⟨W.heap.size, _, _, rfl, Nat.le_refl _, heap_alloc_new W.drew _, Nat.zero_le _, hc, ?_, by simp [fr]⟩⟩, ⟨rfl, rfl, rfl, by simp, fun _ hk => heap_alloc_old W.drew _ hk⟩⟩
 simp only [Array.size_append, size_zeroCells, Value.cells, ← Nat.add_mul]
 rw [Nat.add_sub_cancel' hg]
 rfl
set_option maxRecDepth 100000 in
theorem grow_any (W : World) (n : Nat) (hn : n ≤ 1000000) : Calls Tryz.prog 129 #[.slice none 0 0, .int .i64 n] W fun e w' => ∃ A c, e = .returned (.slice A 0 c) ∧ OwnF w' W.heap.size A c [] ∧ Below W.heap.size W w' := by
 rcases Nat.eq_zero_or_pos n with rfl | h0
 ·have h1 := OwnF.nil W W.heap.size
  go_enter Tryz.func129, Tryz.ntmps129
  go_wp2_with fail
  go_ret
  exact ⟨_, _, rfl, h1, Below.refl _ _⟩
 ·obtain ⟨c, w', hrun, hc, hown, hb⟩ := grow_run W n h0 hn
  go_enter Tryz.func129, Tryz.ntmps129
  go_wp2_with (at_builtin; refine FreeMem.wpList_append_run rfl (.tmp 20) (.tmp 21) 31 3 rfl rfl rfl hrun ?_)
  go_ret
  exact ⟨_, _, rfl, hown, hb⟩
/-- a piece -/
abbrev Pc := Option Addr × Nat × Fs
def pcv (p : Pc) : Value := .slice p.1 p.2.2.length p.2.1
def tot (ps : List Pc) : Nat := (ps.map fun p => p.2.2.length).sum
def all (ps : List Pc) : Fs := (ps.map fun p => p.2.2).flatten
theorem all_len : ∀ ps : List Pc, (all ps).length = tot ps
 | [] => rfl
 | p :: ps => by
  have := all_len ps
  simp only [all, tot, List.map_cons, List.flatten_cons, List.length_append, List.sum_cons] at this ⊢
  omega
theorem tot_take {ps : List Pc} {k : Nat} (h : k < ps.length) : tot (ps.take (k + 1)) = tot (ps.take k) + (ps[k]).2.2.length := by
 rw [List.take_succ_eq_append_getElem h]
 simp only [tot, List.map_append, List.map_cons, List.map_nil, List.sum_append, List.sum_cons, List.sum_nil]
 omega
theorem all_take {ps : List Pc} {k : Nat} (h : k < ps.length) : all (ps.take (k + 1)) = all (ps.take k) ++ (ps[k]).2.2 := by
 rw [List.take_succ_eq_append_getElem h]
 simp only [all, List.map_append, List.map_cons, List.map_nil, List.flatten_append, List.flatten_cons, List.flatten_nil, List.append_nil]
theorem tot_le : ∀ (ps : List Pc) (k : Nat), tot (ps.take k) ≤ tot ps
 | [], k => by simp [tot]
 | p :: ps, 0 => by simp [tot]
 | p :: ps, k + 1 => by
  have := tot_le ps k
  simp only [tot, List.take_succ_cons, List.map_cons, List.sum_cons] at this ⊢
  omega
set_option maxRecDepth 100000 in
set_option maxHeartbeats 1600000 in
theorem concat_any (W : World) (A : Option Addr) (n c : Nat) (ps : List Pc) (hn : n = ps.length) (hr : Row W W.heap.size A (ps.map pcv)) (hp : ∀ p ∈ ps, Row W W.heap.size p.1 (fr p.2.2)) (hl : tot ps ≤ 100000) (hl2 : ps.length ≤ 1000) :
  Calls Tryz.prog 110 #[.slice A n c] W fun e w' => ∃ A' c', e = .returned (.slice A' (all ps).length c') ∧ OwnF w' W.heap.size A' c' (all ps) ∧ Below W.heap.size W w' := by
 subst hn
 have HR := Lib.hid hr
 have HP := Lib.hid hp
 have HT := Lib.hid hl
 clear hr hp hl
 go_enter Tryz.func110, Tryz.ntmps110
 go_wp2_with fail
 go_loopw [3, 5, 11] (fun s _ i wr => ∃ k : Nat, k ≤ ps.length ∧ s = .int .i64 (tot (ps.take k)) ∧ i = .int .i64 k ∧ wr = W) (fun _ _ i _ => ps.length - (intOf i).toNat)
 case atStart => exact ⟨0, by omega, rfl, rfl, rfl⟩
 case round =>
  obtain ⟨k, hk, rfl, rfl, hw⟩ := hrel
  have hw := hw.symm
  subst hw
  have ht := Nat.le_trans (tot_le ps k) HT.out
  by_cases hlt : k < ps.length
  ·obtain ⟨ad, hA, hblk, hc⟩ := HR.out.get k (by simpa using hlt)
   subst hA
   have HE := Lib.hid (tot_take hlt)
   have ht2 := Nat.le_trans (tot_le ps (k + 1)) HT.out
   rw [HE.out] at ht2
   simp only [List.getElem_map, pcv] at hc
   generalize (ps[k]).2.2.length = m at *
   generalize (ps[k]).2.1 = ck at *
   generalize (ps[k]).1 = Ak at *
   generalize tot (ps.take k) = t at *
   go_wp2_with fail
   clear hc
   go_roundw
   case rel => exact ⟨k + 1, by omega, by rw [HE.out]; go_num, by go_num, trivial⟩
   case measure => simp [intOf]; omega
  ·obtain rfl : k = ps.length := by omega
   have HE := Lib.hid (show tot (ps.take ps.length) = tot ps by rw [List.take_of_length_le (Nat.le_refl _)])
   rw [HE.out] at ht
   rw [HE.out]
   have HN := Lib.hid (all_len ps)
   have HW := Lib.hid (grow_any W (tot ps) (by omega))
   have HK := Lib.hid (fun k => tot_le ps k)
   clear HE
   generalize tot ps = t at *
   have hcall := HW.out
   clear HW
   go_wp2_with (go_at_call 129; refine hcall.mono ?_; rintro e w' ⟨A1, c1, rfl, hown1, hb1⟩)
   clear hcall
   go_loopw [6, 8, 27] (fun s _ i wz => ∃ (k m : Nat) (A' : Option Addr) (c' : Nat), k ≤ ps.length ∧ m = (all (ps.take k)).length ∧ s = .slice A' m c' ∧ i = .int .i64 k ∧ OwnF wz W.heap.size A' c' (all (ps.take k)) ∧ Below W.heap.size W wz) (fun _ _ i _ => ps.length - (intOf i).toNat)
   case atStart => exact ⟨0, 0, A1, c1, by omega, rfl, rfl, rfl, hown1, hb1⟩
   case round =>
    clear hown1 hb1
    obtain ⟨k, m, A2, c2, hk, hm, rfl, rfl, hown, hb⟩ := hrel
    have HM := Lib.hid hm
    clear hm
    by_cases hlt : k < ps.length
    ·obtain ⟨ad, hA, hblk, hc⟩ := HR.out.get k (by simpa using hlt)
     subst hA
     have hc' := (hb.cell (p := ad.add k) (by rw [blk_add]; exact hblk)).trans hc
     clear hc
     have HE := Lib.hid (all_take hlt)
     have HF := Lib.hid (show m + (ps[k]).2.2.length ≤ t from by
      have h1 := HK.out (k + 1)
      rw [tot_take hlt, ← all_len, ← HM.out] at h1
      exact h1)
     have hrow := ((HP.out ps[k] (List.getElem_mem hlt)).below hb).more hb.size
     simp only [List.getElem_map, pcv] at hc'
     generalize (ps[k]).2.2 = lk at *
     generalize (ps[k]).2.1 = ck at *
     generalize (ps[k]).1 = Ak at *
     obtain ⟨A3, c3, w3, hrun, hown3, hgr⟩ := run_append_f hown (n := m) (m := lk.length) (k := m + lk.length) (c2 := ck) HM.out rfl rfl hrow (by have := HF.out; omega) hb.size
     have hb3 : Below W.heap.size W w3 := hown.below hb (by rw [← HM.out]; exact hgr) (Nat.le_refl _) hb.size
     clear hgr hown hrow
     go_wp2_with (at_builtin; refine FreeMem.wpList_append_run rfl (.tmp 31) (.tmp 32) 31 31 rfl rfl rfl hrun ?_)
     clear hrun
     go_roundw
     case rel => exact ⟨k + 1, m + lk.length, A3, c3, by omega, by rw [HE.out, List.length_append, HM.out], rfl, by go_num, by rw [HE.out]; exact hown3, hb3⟩
     case measure => simp [intOf]; omega
    ·obtain rfl : k = ps.length := by omega
     have HE := Lib.hid (show all (ps.take ps.length) = all ps by rw [List.take_of_length_le (Nat.le_refl _)])
     rw [HE.out] at hown
     have HM2 := HM.out
     rw [HE.out] at HM2
     subst HM2
     clear HE HM
     go_wp2_with fail
     go_ret
     exact ⟨_, _, rfl, hown, hb⟩
end Go.Proofs.YtpidnkfcccboaaaGreat.FreeCat
namespace Go.Proofs.YtpidnkfcccboaaaGreat.FreeSl
open Go.RowKit Base FreePlain FreeMem FreeFn FreeFind FreeSearch FreeCat

/-- a slice that reads as l -/
def SlF (l : Fs) (v : Value) (w : World) : Prop := ∃ A c, v = .slice A l.length c ∧ l.length ≤ c ∧ Row w w.heap.size A (fr l)
theorem SlF.below {l : Fs} {v : Value} {w w' : World} (h : SlF l v w) (hb : Below w.heap.size w w') : SlF l v w' := by
 obtain ⟨A, c, e, hc, hr⟩ := h
 exact ⟨A, c, e, hc, hr.belowSize hb⟩
theorem SlF.form {l : Fs} {v : Value} {w : World} (h : SlF l v w) : ∃ A m c, v = .slice A m c := by
 obtain ⟨A, c, e, _⟩ := h
 exact ⟨A, _, c, e⟩
theorem add_add_ (a : Addr) (i k : Nat) : (a.add i).add k = a.add (i + k) := by
 by_cases h1 : i = 0
 ·subst h1; simp [Addr.add]
 ·by_cases h2 : k = 0
  ·subst h2; simp [Addr.add]
  ·simp [Addr.add, h1, h2, Nat.add_assoc]
theorem fr_drop : ∀ (l : Fs) (k : Nat), fr (l.drop k) = (fr l).drop (k * 2)
 | l, 0 => by simp
 | [], k + 1 => by simp [fr]
 | p :: l, k + 1 => by
  have := fr_drop l k
  have e : (k + 1) * 2 = k * 2 + 2 := by omega
  rw [List.drop_succ_cons, fr_cons, e, this]
  simp
theorem fr_take : ∀ (l : Fs) (k : Nat), fr (l.take k) = (fr l).take (k * 2)
 | l, 0 => by simp [fr]
 | [], k + 1 => by simp [fr]
 | p :: l, k + 1 => by
  have := fr_take l k
  have e : (k + 1) * 2 = k * 2 + 2 := by omega
  rw [List.take_succ_cons, fr_cons, fr_cons, e, this]
  simp
theorem row_cut {w : World} {B : Nat} {A : Option Addr} {l : Fs} {C i k : Nat} (h : Row w B A (fr l)) (hC : l.length ≤ C) : Row w B (if C = i then A else A.map (·.add (i * 2))) (fr ((l.drop i).take k)) := fun j v hv => by
 have hv2 : (fr l)[i * 2 + j]? = some v := by
  rw [fr_take, fr_drop, List.getElem?_take, List.getElem?_drop] at hv
  split at hv
  ·exact hv
  ·cases hv
 obtain ⟨ad, e, h1, h2⟩ := h _ _ hv2
 subst e
 have hlt : i * 2 + j < l.length * 2 := by
  rcases Nat.lt_or_ge (i * 2 + j) (l.length * 2) with q | q
  ·exact q
  ·rw [List.getElem?_eq_none (by rw [fr_len]; exact q)] at hv2; cases hv2
 rw [if_neg (by omega)]
 exact ⟨ad.add (i * 2), rfl, by rw [blk_add]; exact h1, by rw [add_add_]; exact h2⟩
set_option maxRecDepth 100000 in
theorem size_f (w : World) : (sizeOf (Tryz.prog.elem 31)).run Tryz.prog w = .ok 2 w := by
 have h : (Tryz.prog.info? (Tryz.prog.elem 31)).map (fun i => i.size) = some 2 := by kernel_rfl
 cases hi : Tryz.prog.info? (Tryz.prog.elem 31) with
 | none => rw [hi] at h; cases h
 | some i => rw [hi] at h; injection h with h; simp [sizeOf, typeInfo, hi, h]
theorem under_e : Tryz.prog.underlying 31 = some (.slice (Tryz.prog.elem 31)) := by kernel_rfl
section
variable {w : World} {A : Option Addr} {n c i k : Nat} {l : Fs}
theorem cut_h (hr : Row w w.heap.size A (fr l)) (hc : l.length ≤ c) (hi : i ≤ l.length) : ∃ v, (Instr.slice 31 (.slice A n c) none (some (.int .i64 (i : Int))) none).run Tryz.prog w = .ok v w ∧ SlF (l.take i) v w := by
 refine ⟨_, ?_, (A : Option Addr), c, rfl, ?_, hr.take _ |> fun h => by rw [fr_take]; exact h⟩
 ·rw [run_slice_h w 31 A n c under_e .i64 i (by omega) (by omega), size_f]
  simp only [sliced, Result.andThen, Int.toNat_natCast, Nat.sub_zero, List.length_take, Nat.min_eq_left hi, Nat.zero_mul]
  congr 2
  split
  ·rfl
  ·cases A <;> simp [Addr.add]
 ·rw [List.length_take]; omega
theorem cut_l (hn : n = l.length) (hr : Row w w.heap.size A (fr l)) (hc : l.length ≤ c) (hi : i ≤ l.length) : ∃ v, (Instr.slice 31 (.slice A n c) (some (.int .i64 (i : Int))) none none).run Tryz.prog w = .ok v w ∧ SlF (l.drop i) v w := by
 subst hn
 refine ⟨_, ?_, _, c - i, rfl, ?_, by have h := row_cut (i := i) (k := l.length - i) hr hc; rw [← List.length_drop, List.take_length] at h; exact h⟩
 ·rw [run_slice_l w 31 A l.length c under_e .i64 i (by omega) (by omega), size_f]
  simp only [sliced, Result.andThen, Int.toNat_natCast, List.length_drop]
 ·rw [List.length_drop]; omega
end
set_option maxRecDepth 100000 in
theorem sl_new (w : World) (p : Int × Int) : SlF [p] (.slice (some ⟨w.heap.size, 0, none⟩) 1 1) (w.alloc (.cells #[.int .i64 p.1, .int .i64 p.2] 66)) := ⟨_, _, rfl, Nat.le_refl _, row_item w p⟩
/-- a slice of slices -/
def PcF (ls : List Fs) (v : Value) (w : World) : Prop := ∃ A n ps, v = .slice A n n ∧ n = (ps : List Pc).length ∧ ls = ps.map (fun p => p.2.2) ∧ Row w w.heap.size A (ps.map pcv) ∧ ∀ p ∈ ps, Row w w.heap.size p.1 (fr p.2.2)
theorem PcF.below {ls : List Fs} {v : Value} {w w' : World} (h : PcF ls v w) (hb : Below w.heap.size w w') : PcF ls v w' := by
 obtain ⟨A, n, ps, e, hn, hl, hr, hp⟩ := h
 exact ⟨A, n, ps, e, hn, hl, hr.belowSize hb, fun p h => (hp p h).belowSize hb⟩
theorem PcF.form {ls : List Fs} {v : Value} {w : World} (h : PcF ls v w) : ∃ A m c, v = .slice A m c := by
 obtain ⟨A, n, _, e, _⟩ := h
 exact ⟨A, _, _, e⟩
theorem pc1 {w : World} {t : TypeId} {a : Value} {x : Fs} (ha : SlF x a w) : PcF [x] (.slice (some ⟨w.heap.size, 0, none⟩) 1 1) (w.alloc (.cells #[a] t)) := by
 obtain ⟨A, c, rfl, _, h1⟩ := ha
 refine ⟨_, 1, [(A, c, x)], rfl, rfl, rfl, (row_of_block (heap_alloc_new w (.cells #[.slice A x.length c] t))).more (by simp), fun p hp => ?_⟩
 simp at hp
 subst hp
 exact h1.belowSize (al _ _)
theorem pc2 {w : World} {t : TypeId} {a b : Value} {x y : Fs} (ha : SlF x a w) (hb : SlF y b w) : PcF [x, y] (.slice (some ⟨w.heap.size, 0, none⟩) 2 2) (w.alloc (.cells #[a, b] t)) := by
 obtain ⟨A, c, rfl, _, h1⟩ := ha
 obtain ⟨B, d, rfl, _, h2⟩ := hb
 refine ⟨_, 2, [(A, c, x), (B, d, y)], rfl, rfl, rfl, (row_of_block (heap_alloc_new w (.cells #[.slice A x.length c, .slice B y.length d] t))).more (by simp), fun p hp => ?_⟩
 simp at hp
 rcases hp with rfl | rfl
 ·exact h1.belowSize (al _ _)
 ·exact h2.belowSize (al _ _)
theorem pc3 {w : World} {t : TypeId} {a b d : Value} {x y z : Fs} (ha : SlF x a w) (hb : SlF y b w) (hd : SlF z d w) : PcF [x, y, z] (.slice (some ⟨w.heap.size, 0, none⟩) 3 3) (w.alloc (.cells #[a, b, d] t)) := by
 obtain ⟨A, c1, rfl, _, h1⟩ := ha
 obtain ⟨B, c2, rfl, _, h2⟩ := hb
 obtain ⟨D, c3, rfl, _, h3⟩ := hd
 refine ⟨_, 3, [(A, c1, x), (B, c2, y), (D, c3, z)], rfl, rfl, rfl, (row_of_block (heap_alloc_new w (.cells #[.slice A x.length c1, .slice B y.length c2, .slice D z.length c3] t))).more (by simp), fun p hp => ?_⟩
 simp at hp
 rcases hp with rfl | rfl | rfl
 ·exact h1.belowSize (al _ _)
 ·exact h2.belowSize (al _ _)
 ·exact h3.belowSize (al _ _)
/-- a list of the call's own, from block lo on -/
def OwF (lo : Nat) (l : Fs) (v : Value) (w : World) : Prop := ∃ A m c, v = .slice A m c ∧ m = l.length ∧ OwnF w lo A c l
theorem OwF.below {lo : Nat} {l : Fs} {v : Value} {w w' : World} (h : OwF lo l v w) (hb : Below w.heap.size w w') : OwF lo l v w' := by
 obtain ⟨A, m, c, e, hm, h⟩ := h
 exact ⟨A, m, c, e, hm, h.later hb⟩
theorem OwF.form {lo : Nat} {l : Fs} {v : Value} {w : World} (h : OwF lo l v w) : ∃ A m c, v = .slice A m c := by
 obtain ⟨A, m, c, e, _⟩ := h
 exact ⟨A, m, c, e⟩
theorem own_low {w : World} {lo lo' : Nat} {A : Option Addr} {c : Nat} {l : Fs} (h : OwnF w lo' A c l) (hl : lo ≤ lo') : OwnF w lo A c l := by
 obtain ⟨h1, h2⟩ := h
 refine ⟨h1, ?_⟩
 rcases h2 with h2 | ⟨g, cap, cur, h3, h4, h5⟩
 ·exact .inl h2
 ·exact .inr ⟨g, cap, cur, h3, Nat.le_trans hl h4, h5⟩
theorem catF (w : World) (v : Value) (ls : List Fs) (lo : Nat) (hlo : lo ≤ w.heap.size) (hv : PcF ls v w) (hl : ls.flatten.length ≤ 100000) (hp : ls.length ≤ 1000) :
  Calls Tryz.prog 110 #[v] w fun e w' => ∃ A m c, e = .returned (.slice A m c) ∧ OwF lo ls.flatten (.slice A m c) w' ∧ Below w.heap.size w w' := by
 obtain ⟨A, n, ps, rfl, rfl, rfl, hr, hps⟩ := hv
 refine (concat_any w A ps.length ps.length ps rfl hr hps (by rw [← all_len]; exact hl) (by simpa using hp)).mono ?_
 rintro e w' ⟨A', c', rfl, hown, hb⟩
 exact ⟨A', _, c', rfl, ⟨A', _, c', rfl, rfl, own_low hown hlo⟩, hb⟩
/-! what is found -/
theorem sr_one {g : Int} {l : Fs} {k m : Nat} {b d : Bool} (h : Sr g l k b) (h' : Sr g l m d) : k = m ∧ b = d := by
 obtain ⟨a1, a2, a3, a4⟩ := h
 obtain ⟨b1, b2, b3, b4⟩ := h'
 have e : k = m := by
  rcases Nat.lt_trichotomy k m with q | q | q
  ·have := a3 k (Nat.le_refl _) (by omega)
   have := b2 k q (by omega)
   omega
  ·exact q
  ·have := b3 m (Nat.le_refl _) (by omega)
   have := a2 m q (by omega)
   omega
 subst e
 exact ⟨rfl, Bool.eq_iff_iff.2 (a4.trans b4.symm)⟩
theorem sr_ex (g : Int) : ∀ {l : Fs}, Rise l → ∃ k b, Sr g l k b
 | [], _ => ⟨0, false, by simp [Sr]⟩
 | p :: l, h => by
  obtain ⟨h1, h2⟩ := rise_cons.1 h
  by_cases q : p.1 < g
  ·obtain ⟨k, b, a1, a2, a3, a4⟩ := sr_ex g h2
   refine ⟨k + 1, b, by simpa using a1, ?_, ?_, by simpa using a4⟩
   ·intro j hj hl
    cases j with
    | zero => exact q
    | succ j => exact a2 j (by omega) (by simpa using hl)
   ·intro j hj hl
    cases j with
    | zero => omega
    | succ j => exact a3 j (by omega) (by simpa using hl)
  ·refine ⟨0, decide (p.1 = g), by simp, by intro j hj; omega, ?_, by simp⟩
   intro j _ hl
   cases j with
   | zero => simp; omega
   | succ j =>
    have hj : j < l.length := by simpa using hl
    have := h1 l[j] (List.getElem_mem hj)
    show g ≤ (l[j]).1
    omega
theorem sr_ins {g e : Int} {l : Fs} {k : Nat} {b : Bool} (h : Sr g l k b) : ins g e l = l.take k ++ [(g, e)] ++ l.drop (if b then k + 1 else k) := by
 obtain ⟨a1, a2, a3, a4⟩ := h
 have h1 : ins g e (l.take k ++ l.drop k) = l.take k ++ ins g e (l.drop k) := ins_all _ fun p hp => by
  obtain ⟨j, hj, rfl⟩ := List.mem_iff_getElem.1 hp
  rw [List.length_take] at hj
  rw [List.getElem_take]
  exact a2 j (by omega) (by omega)
 rw [List.take_append_drop] at h1
 rw [h1]
 by_cases hk : k < l.length
 ·have h3 := a3 k (Nat.le_refl _) hk
  have e1 : l.drop k = l[k] :: l.drop (k + 1) := List.drop_eq_getElem_cons hk
  have n1 : ¬ (l[k]).1 < g := by omega
  cases b with
  | true =>
   obtain ⟨_, q⟩ := a4.1 rfl
   rw [e1]
   simp [ins, q]
  | false =>
   have q : (l[k]).1 ≠ g := fun q => by have := a4.2 ⟨hk, q⟩; cases this
   rw [e1]
   simp [ins, q, n1]
 ·have e1 : l.drop k = [] := List.drop_eq_nil_iff.2 (by omega)
  have e2 : l.drop (k + 1) = [] := List.drop_eq_nil_iff.2 (by omega)
  cases b with
  | true => obtain ⟨q, _⟩ := a4.1 rfl; omega
  | false => simp [e1, ins]
theorem at_one {o : Int} {l : Fs} {r s : Int} (h : At o l r) (h' : At o l s) : r = s := by
 rcases h with ⟨rfl, h1⟩ | ⟨k, hk, rfl, h2, h3⟩
 ·rcases h' with ⟨rfl, _⟩ | ⟨m, hm, rfl, h4, _⟩
  ·rfl
  ·exact absurd h4 (h1 _ (List.getElem_mem hm))
 ·rcases h' with ⟨rfl, h1⟩ | ⟨m, hm, rfl, h4, h5⟩
  ·exact absurd h2 (h1 _ (List.getElem_mem hk))
  ·rcases Nat.lt_trichotomy k m with q | q | q
   ·exact absurd h2 (h5 k q)
   ·rw [q]
   ·exact absurd h4 (h3 m q)
theorem at_ex (o : Int) : ∀ l : Fs, At o l (-1) ∨ ∃ k : Nat, At o l k ∧ k < l.length
 | [] => .inl (.inl ⟨rfl, fun _ h => by cases h⟩)
 | p :: l => by
  by_cases q : p.2 ≤ o
  ·exact .inr ⟨0, .inr ⟨0, by simp, rfl, q, fun j hj => by omega⟩, by simp⟩
  ·rcases at_ex o l with h | ⟨k, h, hk⟩
   ·refine .inl (.inl ⟨rfl, ?_⟩)
    rcases h with ⟨_, h⟩ | ⟨k, _, e, _⟩
    ·intro x hx
     rcases List.mem_cons.1 hx with rfl | hx
     ·exact q
     ·exact h x hx
    ·omega
   ·refine .inr ⟨k + 1, .inr ⟨k + 1, by simpa using hk, rfl, ?_⟩, by simpa using hk⟩
    rcases h with ⟨e, _⟩ | ⟨m, hm, e, h1, h2⟩
    ·omega
    ·obtain rfl : k = m := by omega
     refine ⟨h1, fun j hj => ?_⟩
     cases j with
     | zero => exact q
     | succ j => exact h2 j (by omega)
theorem at_none {o : Int} {l : Fs} (h : At o l (-1)) : first o l = (none, l) := by
 rcases h with ⟨_, h⟩ | ⟨k, _, e, _⟩
 ·have := first_none [] h
  rw [List.append_nil] at this
  rw [this]
  simp [first]
 ·omega
theorem at_some {o : Int} {l : Fs} {k : Nat} (hk : k < l.length) (h : At o l k) : first o l = (some (l[k]).1, l.take k ++ l.drop (k + 1)) := by
 rcases h with ⟨e, _⟩ | ⟨m, hm, e, h1, h2⟩
 ·omega
 ·obtain rfl : k = m := by omega
  have h3 := first_none (o := o) (t := l.take k) (l.drop k) fun p hp => by
   obtain ⟨j, hj, rfl⟩ := List.mem_iff_getElem.1 hp
   rw [List.length_take] at hj
   rw [List.getElem_take]
   exact h2 j (by omega)
  rw [List.take_append_drop, List.drop_eq_getElem_cons hk] at h3
  rw [h3]
  simp [first, h1]
theorem search_at (W : World) (A : Option Addr) (n c : Nat) (l : Fs) (g : Int) {k : Nat} {b : Bool} (hs : Sr g l k b) (hn : n = l.length) (hr : Row W W.heap.size A (fr l)) (hu : Rise l) (hl : l.length ≤ 100000) :
  Calls Tryz.prog 84 #[.slice A n c, .int .i64 g, .func (.func 118) #[] #[]] W fun e w' => e = .returned (.tuple #[.int .i64 k, .bool b]) ∧ Below W.heap.size W w' := by
 refine (search_any W A n c l g hn hr hu hl).mono ?_
 rintro e w' ⟨k', b', rfl, h, hb⟩
 obtain ⟨rfl, rfl⟩ := sr_one h hs
 exact ⟨rfl, hb⟩
theorem index_at (W : World) (A : Option Addr) (n c : Nat) (l : Fs) (o : Int) (B : Nat) {r : Int} (hs : At o l r) (hn : n = l.length) (hr : Row W W.heap.size A (fr l)) (hl : l.length ≤ 100000) (hB : B < W.heap.size) (hc : W.cell? ⟨B, 0, none⟩ = some (.int .i64 o)) :
  Calls Tryz.prog 102 #[.slice A n c, clo B] W fun e w' => e = .returned (.int .i64 r) ∧ Below W.heap.size W w' := by
 refine (index_any W A n c l o B hn hr hl hB hc).mono ?_
 rintro e w' ⟨r', rfl, h, hb⟩
 obtain rfl := at_one h hs
 exact ⟨rfl, hb⟩
end Go.Proofs.YtpidnkfcccboaaaGreat.FreeSl
namespace Go.Proofs.YtpidnkfcccboaaaGreat.PagerFind
open Go.RowKit Base FreePlain FreeMem FreeFn FreeSearch FreeSl

set_option maxRecDepth 100000 in
/-- by their pages -/
theorem by_page (W : World) (p1 p2 g : Int) : Calls Tryz.prog 85 #[.agg #[.int .i64 p1, .int .i64 p2], .int .i64 g] W fun e w' => e = .returned (.int .i64 (cmp p1 g)) ∧ Below W.heap.size W w' := by
 have b1 := al W (.cells #[.int .i64 p1, .int .i64 p2] 66)
 go_enter Tryz.func85, Tryz.ntmps85
 go_wp2_with (go_at_call 86; refine (compare_any _ _ _).mono ?_; rintro e w' ⟨rfl, rfl⟩)
 go_ret
 exact ⟨rfl, b1⟩
set_option maxRecDepth 100000 in
set_option maxHeartbeats 1600000 in
theorem search_any (W : World) (A : Option Addr) (n c : Nat) (l : Fs) (g : Int) (hn : n = l.length) (hr : Row W W.heap.size A (fr l)) (hu : Rise l) (hl : l.length ≤ 100000) :
  Calls Tryz.prog 84 #[.slice A n c, .int .i64 g, .func (.func 85) #[] #[]] W fun e w' => ∃ (k : Nat) (b : Bool), e = .returned (.tuple #[.int .i64 k, .bool b]) ∧ Sr g l k b ∧ Below W.heap.size W w' := by
 subst hn
 have HR := Lib.hid hr
 have HU := Lib.hid (fun i j (h : i < j) (hj : j < l.length) => List.pairwise_iff_getElem.1 hu i j (by omega) hj h)
 clear hr hu
 go_enter Tryz.func84, Tryz.ntmps84
 go_wp2_with fail
 go_loopw [9, 10, 11] (fun i j _ wr => ∃ k m : Nat, k ≤ m ∧ m ≤ l.length ∧ i = .int .i64 k ∧ j = .int .i64 m ∧ (∀ j (_ : j < k) (h : j < l.length), (l[j]).1 < g) ∧ (∀ j (_ : m ≤ j) (h : j < l.length), g ≤ (l[j]).1) ∧ Below W.heap.size W wr) (fun i j _ _ => (intOf j).toNat - (intOf i).toNat)
 case atStart => exact ⟨0, l.length, by omega, by omega, rfl, rfl, by intro j h q; omega, by intro j h q; omega, Below.refl _ _⟩
 case round =>
  obtain ⟨k, m, hkm, hm, rfl, rfl, hp1, hp2, hbw⟩ := hrel
  have HP := Lib.hid hp1
  have HQ := Lib.hid hp2
  clear hp1 hp2
  by_cases hlt : k < m
  ·obtain ⟨h, eh, hh1, hh2⟩ : ∃ h : Nat, ((k : Int) + (m : Int)) / 2 = (h : Int) ∧ k ≤ h ∧ h < m := ⟨(k + m) / 2, by omega, by omega, by omega⟩
   have hlh : h < l.length := by omega
   obtain ⟨ad, hA, hblk, hc1, hc2⟩ := row_at HR.out h hlh
   subst hA
   have cc1 := (hbw.cell (p := ad.add (h * 2)) (by rw [blk_add]; exact hblk)).trans hc1
   have cc2 := (hbw.cell (p := ⟨(ad.add (h * 2)).block, (ad.add (h * 2)).off + 1, none⟩) (by show (ad.add (h * 2)).block < _; rw [blk_add]; exact hblk)).trans hc2
   clear hc1 hc2
   have hcall := by_page wr (l[h]).1 (l[h]).2 g
   by_cases hle : (l[h]).1 < g
   ·have HL := Lib.hid (show ∀ j (_ : j < h + 1) (q : j < l.length), (l[j]).1 < g from fun j hj q => by
     rcases Nat.lt_or_ge j h with q' | q'
     ·have := HU.out j h q' hlh; omega
     ·obtain rfl : j = h := by omega
      exact hle)
    have hd : cmp (l[h]).1 g < 0 := by rw [cmp_neg]; exact hle
    generalize cmp (l[h]).1 g = z at *
    clear hle
    generalize (l[h]).1 = p1 at *
    generalize (l[h]).2 = p2 at *
    go_wp2_with (go_at_call 85; refine hcall.mono ?_; rintro e w' ⟨rfl, hb'⟩)
    have hb2 := hbw.trans (hb'.mono hbw.size)
    clear hcall eh
    go_roundw
    case rel => exact ⟨h + 1, m, by omega, hm, by go_num, rfl, HL.out, HQ.out, hb2⟩
    case measure => simp [intOf]; omega
   ·have HL := Lib.hid (show ∀ j (_ : h ≤ j) (q : j < l.length), g ≤ (l[j]).1 from fun j hj q => by
     rcases Nat.lt_or_ge h j with q' | q'
     ·have := HU.out h j q' q; omega
     ·obtain rfl : j = h := by omega
      omega)
    have hd : (cmp (l[h]).1 g < 0) = False := by rw [cmp_neg]; simpa using hle
    generalize cmp (l[h]).1 g = z at *
    clear hle
    generalize (l[h]).1 = p1 at *
    generalize (l[h]).2 = p2 at *
    go_wp2_with (go_at_call 85; refine hcall.mono ?_; rintro e w' ⟨rfl, hb'⟩)
    have hb2 := hbw.trans (hb'.mono hbw.size)
    clear hcall eh
    go_roundw
    case rel => exact ⟨k, h, by omega, by omega, rfl, by go_num, HP.out, HL.out, hb2⟩
    case measure => simp [intOf]; omega
  ·obtain rfl : k = m := by omega
   clear hkm hlt
   by_cases hk : k < l.length
   ·obtain ⟨ad, hA, hblk, hc1, hc2⟩ := row_at HR.out k hk
    subst hA
    have cc1 := (hbw.cell (p := ad.add (k * 2)) (by rw [blk_add]; exact hblk)).trans hc1
    have cc2 := (hbw.cell (p := ⟨(ad.add (k * 2)).block, (ad.add (k * 2)).off + 1, none⟩) (by show (ad.add (k * 2)).block < _; rw [blk_add]; exact hblk)).trans hc2
    clear hc1 hc2
    have hcall := by_page wr (l[k]).1 (l[k]).2 g
    have HS := Lib.hid (show Sr g l k (cmp (l[k]).1 g == 0) from ⟨hm, HP.out, HQ.out, by rw [cmp_zero]; simp [hk]⟩)
    generalize cmp (l[k]).1 g = z at *
    generalize (l[k]).1 = p1 at *
    generalize (l[k]).2 = p2 at *
    go_wp2_with (go_at_call 85; refine hcall.mono ?_; rintro e w' ⟨rfl, hb'⟩)
    go_ret2
    exact ⟨k, z == 0, rfl, HS.out, hbw.trans (hb'.mono hbw.size)⟩
   ·have HS := Lib.hid (show Sr g l k false from ⟨hm, HP.out, HQ.out, by simp; omega⟩)
    have hkf : ((k : Int) < (l.length : Int)) = False := by simp; omega
    clear hk
    go_wp2_with fail
    go_ret2
    exact ⟨k, false, rfl, HS.out, hbw⟩
theorem sr_ks {g : Int} {l : Fs} {k : Nat} {b : Bool} (hu : Rise l) (h : Sr g l k b) : b = decide (g ∈ l.map (·.1)) := by
 obtain ⟨h1, h2, h3, h4⟩ := h
 rw [Bool.eq_iff_iff, h4, decide_eq_true_iff]
 constructor
 ·rintro ⟨h, e⟩
  exact List.mem_map.2 ⟨l[k], List.getElem_mem h, e⟩
 ·intro h
  obtain ⟨q, hq, e⟩ := List.mem_map.1 h
  obtain ⟨j, hj, rfl⟩ := List.mem_iff_getElem.1 hq
  rcases Nat.lt_trichotomy j k with r | r | r
  ·have := h2 j r hj; omega
  ·subst r; exact ⟨hj, e⟩
  ·have h5 := h3 k (Nat.le_refl _) (by omega)
   have h6 := List.pairwise_iff_getElem.1 hu k j (by omega) hj r
   omega
end Go.Proofs.YtpidnkfcccboaaaGreat.PagerFind
