/- FactsFew, FactsIs. -/
import Derived.Test.YtilcnhdfdgmekaaGreatKFactsRefS
namespace Go.Proofs.YtilcnhdfdgmekaaGreat.FactsFew
open Go.RowKit Base KeyPlain TuplePlain TupleRef TupleSpec FMap FactsPlain FactsMem FactsNew FactsObj FactsUsersOf FactsRefS FactsLess FactsOrder TurnB RowN

def short (t : Tp) : Bool := t.parts.all fun p => decide (p.size ≤ 300)
def fewB (l : List Tp) : Bool := l.all short && decide (l.length ≤ 80)
theorem short_few {t : Tp} (h : short t = true) : TupleSpec.Few t := fun p hp => by
  have := List.all_eq_true.1 h p hp
  simpa using this
theorem take_all {l : List Tp} {k : Nat} {p : Tp → Bool} (h1 : k < l.length) (h : (l.take k).all p = true) (h2 : p l[k] = true) : (l.take (k + 1)).all p = true := by
  rw [List.take_succ_eq_append_getElem h1, List.all_append, h]
  simp [h2]
theorem part_bad {t : Tp} {j : Nat} (hj : j < t.parts.length) (h : 300 < t.parts[j].size) : short t = false := by
  unfold short
  rw [Bool.eq_false_iff]
  intro hh
  have := List.all_eq_true.1 hh _ (List.getElem_mem hj)
  simp at this
  omega
theorem not_few {l : List Tp} {k : Nat} (h1 : k < l.length) (h2 : short l[k] = false) : fewB l = false := by
  unfold fewB
  rw [Bool.and_eq_false_iff]
  left
  rw [Bool.eq_false_iff]
  intro hh
  have := List.all_eq_true.1 hh _ (List.getElem_mem h1)
  rw [h2] at this
  cases this
theorem parts_get {W : World} {A : Option Addr} {t : Tp} {B : Nat} (h : Row W B A (t.parts.map .string)) : ∃ ad, A = some ad ∧ ad.block < B ∧ ∀ j (hj : j < t.parts.length), W.cell? (ad.add j) = some (.string t.parts[j]) := by
  obtain ⟨ad, hA, hb, _⟩ := h.get 0 (by simp [Tp.parts])
  refine ⟨ad, hA, hb, fun j hj => ?_⟩
  obtain ⟨ad', hA', _, hc⟩ := h.get j (by simpa using hj)
  rw [hA] at hA'
  injection hA' with hA'
  subst hA'
  simpa using hc
set_option maxRecDepth 100000 in
set_option maxHeartbeats 12800000 in
theorem few_any (W : World) (A : Option Addr) (n c : Nat) (l : List Tp) (hn : n = l.length) (hr : RowT W A l) (hl : n ≤ 4611686018427387904) :
    Calls Tryz.prog 11 #[.slice A n c] W fun e w' => e = .returned (.bool (fewB l)) ∧ Below W.heap.size W w' := by
  have HR := Lib.hid hr
  have HN := Lib.hid hn
  obtain ⟨ans, hans⟩ : ∃ v, v = fewB l := ⟨_, rfl⟩
  have HA := Lib.hid hans
  rw [← hans]
  clear hr hn hans
  go_enter Tryz.func11, Tryz.ntmps11
  go_wp2_with fail
  go_loopw [3] (fun i wr => ∃ k : Nat, k ≤ n ∧ i = .int .i64 k ∧ (l.take k).all short = true ∧ Below W.heap.size W wr) (fun i _ => n - (intOf i).toNat)
  case atStart => exact ⟨0, by omega, rfl, by simp, Below.refl _ _⟩
  case round =>
    obtain ⟨k, hk, rfl, hpre, hbw⟩ := hrel
    have HP := Lib.hid hpre
    have HBW := Lib.hid hbw
    clear hpre
    by_cases hlt : k < n
    · have h1 : k < l.length := by rw [← HN.out]; exact hlt
      obtain ⟨g1, o1, hA, hg1, d0, d1, d2, d3, d4, d5⟩ := (HR.out.below hbw) k h1
      have hx1 := idx_tp (n := n) (c := c) hA hlt
      have HT := Lib.hid (show (short l[k] = true → (l.take (k + 1)).all short = true) ∧ (short l[k] = false → ans = false) from ⟨fun h => take_all h1 HP.out h, fun h => by rw [HA.out]; exact not_few h1 h⟩)
      generalize l[k] = t at *
      have hpt := refParts_any t wr
      unfold tc at hpt
      have HLT := Lib.hid hlt
      clear h1 hA hg1 hbw
      go_wp2_with fail
      (with_reducible refine hpt.mono ?_)
      clear hpt d0 d1 d2 d3 d4 d5 hx1
      rintro e w2 hq
      unfold PartsPost at hq
      obtain ⟨A2, c2, rfl, hrow, hb2⟩ := hq
      obtain ⟨ad, rfl, hadb, hcell⟩ := parts_get hrow
      have HC := Lib.hid hcell
      have HB2 := Lib.hid (HBW.out.trans (hb2.mono HBW.out.size))
      have HAD := Lib.hid hadb
      clear hrow hb2 hcell hadb
      go_wp2_with fail
      go_loopw [5] (fun j wq => ∃ q : Nat, q ≤ 6 ∧ j = .int .i64 q ∧ (t.parts.take q).all (fun p => decide (p.size ≤ 300)) = true ∧ wq = w2) (fun j _ => 6 - (intOf j).toNat)
      case atStart => exact ⟨0, by omega, rfl, by simp, rfl⟩
      case round =>
        obtain ⟨q, hq6, rfl, hall, rfl⟩ := hrel
        have HALL := Lib.hid hall
        clear hall
        by_cases hq : q < 6
        · have hq' : q < t.parts.length := hq
          have hce := HC.out q hq'
          have HS := Lib.hid (show (t.parts[q].size ≤ 300 → (t.parts.take (q + 1)).all (fun p => decide (p.size ≤ 300)) = true) ∧ (300 < t.parts[q].size → short t = false) from
            ⟨fun h => by rw [List.take_succ_eq_append_getElem hq', List.all_append, HALL.out]; simp [h], fun h => part_bad hq' h⟩)
          generalize t.parts[q] = p at *
          have HQ := Lib.hid hq
          clear hq'
          by_cases hs : 300 < p.size
          · have hgt : (300 : Int) < (p.size : Int) := by omega
            have HF := Lib.hid (HT.out.2 (HS.out.2 hs))
            clear hs
            go_wp2_with fail
            go_ret
            exact ⟨ret_bool HF.out.symm, HB2.out⟩
          · have hgt : ¬ (300 : Int) < (p.size : Int) := by omega
            have HF := Lib.hid (HS.out.1 (by omega))
            clear hs
            go_wp2_with fail
            go_roundw
            case rel => exact ⟨q + 1, by have := HQ.out; omega, by go_num, HF.out, trivial⟩
            case measure => have := HQ.out; simp [intOf]; omega
        · have HF := Lib.hid (HT.out.1 (by
            have h6 : q = 6 := by omega
            have := HALL.out
            rw [h6] at this
            unfold short
            exact this))
          go_wp2_with fail
          go_roundw
          case rel => exact ⟨k + 1, by have := HLT.out; omega, by go_num, HF.out, HB2.out⟩
          case measure => have := HLT.out; simp [intOf]; omega
    · have HF := Lib.hid (show ans = decide ((n : Int) ≤ 80) by
        have hk' : k = n := by omega
        have h1 := HP.out
        rw [hk', List.take_of_length_le (by rw [HN.out]; exact Nat.le_refl _)] at h1
        rw [HA.out, fewB, h1, Bool.true_and, ← HN.out, decide_eq_decide]
        omega)
      go_wp2_with fail
      go_ret
      exact ⟨ret_bool HF.out.symm, HBW.out⟩
/-! a slice of tuples copied -/
theorem elem_t : ElemN Tryz.prog 22 32 6 96 := by
  obtain ⟨i, h1, h2, h3, h4⟩ := info_parts (show (Tryz.prog.info? 32).map (fun i => (i.zero, i.size, i.bytes)) = some (some (.agg #[.string ⟨#[]⟩, .string ⟨#[]⟩, .string ⟨#[]⟩, .string ⟨#[]⟩, .string ⟨#[]⟩, .string ⟨#[]⟩]), 6, 96) from by kernel_rfl)
  exact ⟨Tryz.underlying22, i, _, h1, h2, h3, h4, rfl⟩
theorem row_flat {w : World} {A : Option Addr} {l : List Tp} (h : TRow w A l) : Row w w.heap.size A (l.flatMap encT) := fun j v hv => by
  have hj : j < l.length * 6 := by
    have h1 := (List.getElem?_eq_some_iff.1 hv).1
    have h2 : (l.flatMap encT).length = l.length * 6 := by
      rw [List.length_flatMap]
      clear h1 hv h
      induction l with
      | nil => rfl
      | cons t l ih => simp only [List.map_cons, List.sum_cons, ih, List.length_cons]; rw [show (encT t).length = 6 from rfl]; omega
    omega
  have hi : j / 6 < l.length := by omega
  have he : j / 6 * 6 + j % 6 = j := by omega
  have hf := flat_at (enc := encT) (k := 6) (fun _ => rfl) l (j / 6) (j % 6) hi (by omega)
  rw [he, hv] at hf
  obtain ⟨g, o, rfl, hg, hc⟩ := h (j / 6) hi
  refine ⟨_, rfl, hg, ?_⟩
  have := hc (j % 6) v hf.symm
  rw [show o + j / 6 * 6 + j % 6 = o + j by omega] at this
  by_cases h0 : j = 0
  · subst h0
    simpa [Addr.add] using this
  · simpa [Addr.add, h0] using this
theorem trow_own {w : World} {A : Option Addr} {c n base : Nat} {l : List Tp} (hn : n = l.length) (h : w.ownsRow base 32 6 (.slice A n c) n (l.flatMap encT)) : TRow w A l := by
  rcases h.2 with ⟨h1, h2⟩ | ⟨g, cap, cur, h1, _, h3, _⟩
  · have : l = [] := List.eq_nil_of_length_eq_zero (by omega)
    subst this
    intro i hi
    simp at hi
  · injection h1 with h1
    subst h1
    exact trow_of (holds_of_own (enc := encT) (k := 6) (by decide) (fun _ => rfl) hn h) (heap_lt h3)
theorem own_new (w : World) : (w.alloc (.cells #[] 32)).ownsRow w.heap.size 32 6 (.slice (some ⟨w.heap.size, 0, none⟩) 0 0) 0 [] := World.ownsRow_made w #[] 0 (Nat.le_refl _) (by simp [maxLen]) rfl
/-- append([]api.Tuple{}, l...) -/
theorem run_copy {w : World} {A : Option Addr} {n c : Nat} {l : List Tp} (hn : n = l.length) (hr : TRow w A l) (hz : n * 96 ≤ 140737488355328) (ty : TypeId) :
    ∃ A' c' w', (Builtin.append_ #[22, 22] ty #[.slice (some ⟨w.heap.size, 0, none⟩) 0 0, .slice A n c]).run Tryz.prog (w.alloc (.cells #[] 32)) = .ok (.slice A' n c') w' ∧ TRow w' A' l ∧ Below w.heap.size w w' := by
  have hb := al w (.cells #[] 32)
  have ho := own_new w
  have h1 : ∀ u ∈ l.flatMap encT, u.oneCell' = true := fun u hu => by
    obtain ⟨t, _, hu⟩ := List.mem_flatMap.1 hu
    simp [encT, tc] at hu
    rcases hu with rfl | rfl | rfl | rfl | rfl | rfl <;> rfl
  have hlen : (l.flatMap encT).length = n * 6 := by
    rw [hn, List.length_flatMap]
    clear h1 hr hn
    induction l with
    | nil => rfl
    | cons t l ih => simp only [List.map_cons, List.sum_cons, ih, List.length_cons]; rw [show (encT t).length = 6 from rfl]; omega
  obtain ⟨A', c', w', hrun, ho', hg, hloc⟩ := run_append_n (c2 := c) ty elem_t (by decide) ho (row_flat (hr.below hb)) hlen h1 (by unfold maxLen; omega) (by omega) (by simp)
  rw [Nat.zero_add] at hrun ho'
  refine ⟨A', c', w', hrun, trow_own hn (by simpa using ho'), hb.grown hg hb.size fun k hk => (ho.lt k hk).1⟩
end Go.Proofs.YtilcnhdfdgmekaaGreat.FactsFew
namespace Go.Proofs.YtilcnhdfdgmekaaGreat.FactsIs
open Go.RowKit Base KeyPlain TuplePlain TupleRef TupleSpec FMap FactsPlain FactsMem FactsHas FactsPut FactsDrop FactsNew FactsFind FactsObj FactsUsersOf FactsNames FactsOrder FactsRefS FactsFew TurnB

structure Is (lo : Nat) (w : World) (fb : Nat) (m : List Tp) : Prop where
  ex : ∃ gm G, Fx lo w fb gm G ∧ ∀ x, x ∈ alls G ↔ x ∈ m
  low : lo ≤ w.heap.size
  up : Up ltT m
section
variable {lo : Nat} {w w' : World} {fb : Nat} {m : List Tp}
theorem Is.below (h : Is lo w fb m) (hb : Below w.heap.size w w') : Is lo w' fb m := by
  obtain ⟨gm, G, hf, hm⟩ := h.ex
  exact ⟨⟨gm, G, hf.below hb, hm⟩, Nat.le_trans h.low hb.size, h.up⟩
theorem mk_of {G : List Grp} (up : Up ltT m) (hm : ∀ x, x ∈ alls G ↔ x ∈ m) : mk ltT (alls G) = m := up_ext ordT (mk_up ordT _) up fun x => by rw [mk_mem, hm]
theorem len_of {G : List Grp} {gm : Nat} (hf : Fx lo w fb gm G) (up : Up ltT m) (hm : ∀ x, x ∈ alls G ↔ x ∈ m) : (alls G).length = m.length := by
  rw [← mk_of up hm, FactsSort.mk_len ordT hf.once]
theorem Is.lt (h : Is lo w fb m) : lo ≤ fb ∧ fb < w.heap.size := by
  obtain ⟨gm, G, hf, hm⟩ := h.ex
  exact ⟨hf.low.1, hf.lt.1⟩
theorem Is.oks (h : Is lo w fb m) : ∀ t ∈ m, t.ok = true := fun t ht => by
  obtain ⟨gm, G, hf, hm⟩ := h.ex
  exact hf.oks t ((hm t).2 ht)
theorem Is.has (h : Is lo w fb m) (t : Tp) (ht : TpF t) :
    Calls Tryz.prog 14 #[.pointer (some ⟨fb, 0, none⟩), .agg (tc t)] w fun e w' => e = .returned (.bool (decide (t ∈ m))) ∧ Below w.heap.size w w' := by
  obtain ⟨gm, G, hf, hm⟩ := h.ex
  have := has_any hf t ht
  simp only [hm] at this
  exact this
theorem Is.put (h : Is lo w fb m) (t : Tp) (ht : TpF t) :
    Calls Tryz.prog 16 #[.pointer (some ⟨fb, 0, none⟩), .agg (tc t)] w fun e w' => e = .returned (.bool (t.ok && decide (t ∉ m))) ∧ Is lo w' fb (putT m t) ∧ Wn lo w w' := by
  obtain ⟨gm, G, hf, hm⟩ := h.ex
  refine (put_any hf h.low t ht).mono ?_
  rintro e w' ⟨G', rfl, hf', hm', hw⟩
  refine ⟨by simp only [hm], ⟨⟨gm, G', hf', fun x => ?_⟩, Nat.le_trans h.low hw.size, ?_⟩, hw⟩
  · rw [hm', hm]
    unfold putT
    by_cases hok : t.ok = true
    · rw [if_pos hok, put_mem]
      simp [hok, or_comm]
    · rw [if_neg hok]
      simp [hok]
  · unfold putT
    split
    · exact put_up ordT h.up t
    · exact h.up
theorem drop_mem {t x : Tp} : x ∈ drop m t ↔ x ∈ m ∧ x ≠ t := by
  unfold drop
  rw [List.mem_filter]
  simp
theorem Is.drop (h : Is lo w fb m) (t : Tp) (ht : TpF t) :
    Calls Tryz.prog 18 #[.pointer (some ⟨fb, 0, none⟩), .agg (tc t)] w fun e w' => e = .returned (.bool (decide (t ∈ m))) ∧ Is lo w' fb (FactsPlain.drop m t) ∧ Wn lo w w' := by
  obtain ⟨gm, G, hf, hm⟩ := h.ex
  refine (drop_any hf t ht).mono ?_
  rintro e w' ⟨G', rfl, hf', hm', hw⟩
  exact ⟨by simp only [hm], ⟨⟨gm, G', hf', fun x => by rw [hm', hm, drop_mem]⟩, Nat.le_trans h.low hw.size, up_filter h.up _⟩, hw⟩
def AllPost (w : World) (m : List Tp) (e : Ending) (w' : World) : Prop := ∃ (A : Option Addr) (c n : Nat), n = m.length ∧ e = .returned (.slice A n c) ∧ ((A = none ∧ c = 0) ∨ ∃ g, A = some ⟨g, 0, none⟩) ∧ n ≤ c ∧ TRow w' A m ∧ Below w.heap.size w w'
theorem Is.all (h : Is lo w fb m) (hn : m.length * 96 ≤ 140737488355328) :
    Calls Tryz.prog 20 #[.pointer (some ⟨fb, 0, none⟩)] w (AllPost w m) := by
  obtain ⟨gm, G, hf, hm⟩ := h.ex
  have h1 := all_any hf (by rw [len_of hf h.up hm]; exact hn)
  rw [mk_of h.up hm] at h1
  exact h1
theorem Is.find (h : Is lo w fb m) (hn : m.length * 96 ≤ 140737488355328) (x : Tp) (most : Int) :
    Calls Tryz.prog 21 #[.pointer (some ⟨fb, 0, none⟩), .agg (tc x), .int .i64 most] w (FindPost w m x most) := by
  obtain ⟨gm, G, hf, hm⟩ := h.ex
  have h1 := find_any hf (by rw [len_of hf h.up hm]; exact hn) x most
  rw [mk_of h.up hm] at h1
  exact h1
theorem Is.users (h : Is lo w fb m) (hn : m.length * 96 ≤ 140737488355328) (o : Us) (ho : UsF o) :
    Calls Tryz.prog 24 #[.pointer (some ⟨fb, 0, none⟩), .string o.k, .string o.i, .string o.r] w (UsersPost w (FactsPlain.users m o.k o.i o.r)) := by
  obtain ⟨gm, G, hf, hm⟩ := h.ex
  have he : FactsPlain.mk ltU (usersOf G o) = FactsPlain.users m o.k o.i o.r := by rw [FactsSame.users_is, mk_of h.up hm]
  rcases hf.grp o with ⟨g, hg, rfl, hall⟩ | ⟨hno, hall⟩
  · have h1 := users_some hf (by rw [len_of hf h.up hm]; exact hn) hg hall
    rw [he] at h1
    exact h1
  · have hz : FactsPlain.users m o.k o.i o.r = [] := by
      rw [← he]
      have : usersOf G o = [] := by
        unfold usersOf
        rw [List.map_eq_nil_iff, List.filter_eq_nil_iff]
        intro t ht
        simpa using hall t ht
      rw [this]
      rfl
    refine (users_none hf o ho hno).mono ?_
    rintro e w' ⟨rfl, hb⟩
    rw [hz]
    exact ⟨none, 0, 0, rfl, rfl, fun i hi => by simp at hi, hb⟩
theorem Is.people (h : Is lo w fb m) (hn : m.length * 96 ≤ 140737488355328) :
    Calls Tryz.prog 29 #[.pointer (some ⟨fb, 0, none⟩)] w (UsersPost w (FactsPlain.people m)) := by
  obtain ⟨gm, G, hf, hm⟩ := h.ex
  have h1 := FactsPeople.people_any hf (by rw [len_of hf h.up hm]; exact hn)
  have he : FactsPlain.mk ltU ((alls G).map (·.u)) = FactsPlain.people m := mk_ext ordU fun u => by
    rw [List.mem_map, List.mem_map]
    exact ⟨fun ⟨t, ht, k⟩ => ⟨t, (hm t).1 ht, k⟩, fun ⟨t, ht, k⟩ => ⟨t, (hm t).2 ht, k⟩⟩
  rw [he] at h1
  exact h1
theorem rowS_of {A : Option Addr} {l : List ByteArray} (h : Row w w.heap.size A (l.map .string)) (hA : A = none ∨ ∃ g, A = some ⟨g, 0, none⟩) : RowS w A l := fun i hi => by
  obtain ⟨ad, hd, hb, hc⟩ := h.get i (by simpa using hi)
  rcases hA with rfl | ⟨g, rfl⟩
  · cases hd
  · injection hd with hd
    subst hd
    refine ⟨g, 0, rfl, by simpa [blk_add] using hb, ?_⟩
    rw [add_zero_block] at hc
    simpa using hc
def ObjectsPost (w : World) (l : List ByteArray) (e : Ending) (w' : World) : Prop := ∃ (A : Option Addr) (c n : Nat), n = l.length ∧ e = .returned (.slice A n c) ∧ RowS w' A l ∧ Below w.heap.size w w'
theorem Is.objects (h : Is lo w fb m) (hn : m.length * 96 ≤ 140737488355328) (kind : ByteArray) :
    Calls Tryz.prog 27 #[.pointer (some ⟨fb, 0, none⟩), .string kind] w (ObjectsPost w (FactsPlain.objects m kind)) := by
  obtain ⟨gm, G, hf, hm⟩ := h.ex
  have he : FactsPlain.mk ltS (names (alls G) kind) = FactsPlain.objects m kind := mk_ext ordS (names_mem hm kind)
  refine (objects_any hf (by rw [len_of hf h.up hm]; exact hn) kind).mono ?_
  rintro e w' ⟨A, c, n, h1, h2, h3, h4, h5⟩
  rw [he] at h1 h4
  exact ⟨A, c, n, h1, h2, rowS_of h4 h3, h5⟩
end
def MadePost (w0 : World) (m : List Tp) (e : Ending) (w' : World) : Prop := ∃ fb, e = .returned (.pointer (some ⟨fb, 0, none⟩)) ∧ Is w0.heap.size w' fb m ∧ Below w0.heap.size w0 w'
theorem is_new {w0 : World} {A : Option Addr} {n c : Nat} (l : List Tp) (hn : n = l.length) (hl : n < 4611686018427387904) (hr : TRow w0 A l) (hT : ∀ t ∈ l, TpF t) :
    Calls Tryz.prog 9 #[.slice A n c] w0 (MadePost w0 (new l)) := by
  subst hn
  refine (new_any l hl hr hT).mono ?_
  rintro e w' ⟨fb, gm, G, rfl, hf, hm, hb⟩
  exact ⟨fb, rfl, ⟨⟨gm, G, hf, fun x => by rw [hm, new_mem]⟩, hb.size, new_up l⟩, hb⟩
end Go.Proofs.YtilcnhdfdgmekaaGreat.FactsIs
