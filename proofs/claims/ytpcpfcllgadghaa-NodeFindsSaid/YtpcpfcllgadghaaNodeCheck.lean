/- Contracts of Check and what it calls, and of the document's Check. -/
import Derived.Test.YtpcpfcllgadghaaNodeSlice
namespace Go.Proofs.Ytpcpfcllgadghaa.NodeCheck
open Go.RowKit Base NodePlain NodeRead NodeSlice

/-! too long -/
theorem longer_any (w : World) (x : Nat) (s : ByteArray) (hc : w.cell? ⟨x, 0, none⟩ = some (.int .i64 100)) :
    Calls Try.prog 55 #[.string s, .pointer (some ⟨x, 0, none⟩)] w fun e w' => e = .returned (.bool (decide (100 < s.size))) ∧ w = w' := by
  have HD := Lib.hid (show decide (100 < s.size) = decide ((100 : Int) < (s.size : Int)) from decide_eq_decide.2 (by omega))
  go_enter Try.func55, Try.ntmps55
  go_wp2_with fail
  go_ret
  exact ⟨ret_bool (by rw [HD.out]), rfl⟩
set_option maxHeartbeats 800000 in
theorem index_s (w : World) (x : Nat) (A : Option Addr) (n c : Nat) (ks : List ByteArray) (hn : n = ks.length) (hr : Row w w.heap.size A (strs ks)) (hl : ks.length ≤ 1000) (hc : w.cell? ⟨x, 0, none⟩ = some (.int .i64 100)) :
    Calls Try.prog 61 #[.slice A n c, .func (.func 55) #[] #[.pointer (some ⟨x, 0, none⟩)]] w fun e w' => ∃ r : Int, e = .returned (.int .i64 r) ∧ (0 ≤ r ↔ Long ks) ∧ w = w' := by
  subst hn
  go_enter Try.func61, Try.ntmps61
  go_wp2_with fail
  go_loop [8] (fun i => ∃ k : Nat, k ≤ ks.length ∧ i = .int .i64 k ∧ ∀ (j : Nat) (h : j < ks.length), j < k → ks[j].size ≤ 100) (fun i => ks.length - (intOf i).toNat)
  case atStart => exact ⟨0, by omega, rfl, by intro j h q; omega⟩
  case round =>
    obtain ⟨k, hk, rfl, hpre⟩ := hrel
    have HP := Lib.hid hpre
    clear hpre
    by_cases hlt : k < ks.length
    · obtain ⟨ad, rfl, hb, hcell⟩ := strs_get hr k hlt
      have hh := longer_any w x ks[k] hc
      by_cases hq : 100 < ks[k].size
      · have HL := Lib.hid (show Long ks from ⟨ks[k], List.getElem_mem hlt, hq⟩)
        rw [decide_eq_true hq] at hh
        clear hq
        generalize ks[k] = q at *
        go_wp2_with (go_at_call 55; refine hh.mono ?_; rintro e w' ⟨rfl, rfl⟩)
        go_ret
        exact ⟨_, rfl, ⟨fun _ => HL.out, fun _ => by omega⟩, rfl⟩
      · have HN := Lib.hid (show ∀ (j : Nat) (h : j < ks.length), j < k + 1 → ks[j].size ≤ 100 from fun j h q => by
          by_cases e : j = k
          · subst e; omega
          · exact HP.out j h (by omega))
        rw [decide_eq_false hq] at hh
        clear hq
        generalize ks[k] = q at *
        go_wp2_with (go_at_call 55; refine hh.mono ?_; rintro e w' ⟨rfl, rfl⟩)
        go_round
        case rel => exact ⟨k + 1, by omega, by go_num, HN.out⟩
        case measure => simp [intOf]; omega
    · obtain rfl : k = ks.length := by omega
      go_wp2_with fail
      go_ret
      refine ⟨_, rfl, ⟨fun h => by omega, fun ⟨t, ht, hs⟩ => ?_⟩, rfl⟩
      obtain ⟨j, hj, rfl⟩ := List.mem_iff_getElem.1 ht
      have := HP.out j hj hj
      omega
theorem contains_s (w : World) (x : Nat) (A : Option Addr) (n c : Nat) (ks : List ByteArray) (hn : n = ks.length) (hr : Row w w.heap.size A (strs ks)) (hl : ks.length ≤ 1000) (hc : w.cell? ⟨x, 0, none⟩ = some (.int .i64 100)) (b : Bool) (hb : b = true ↔ Long ks) :
    Calls Try.prog 54 #[.slice A n c, .func (.func 55) #[] #[.pointer (some ⟨x, 0, none⟩)]] w fun e w' => e = .returned (.bool b) ∧ w = w' := by
  have hh := index_s w x A n c ks hn hr hl hc
  have HB := Lib.hid hb
  clear hn hr hl hc hb
  go_enter Try.func54, Try.ntmps54
  go_wp2_with (go_at_call 61; refine hh.mono ?_; rintro e w' ⟨r, rfl, hr, rfl⟩; have HR := Lib.hid hr; clear hr)
  go_ret
  refine ⟨ret_bool ?_, rfl⟩
  have := HR.out.trans HB.out.symm
  cases b <;> simp at this ⊢ <;> omega
theorem anyLonger_any (w : World) (A : Option Addr) (n c : Nat) (ks : List ByteArray) (hn : n = ks.length) (hr : Row w w.heap.size A (strs ks)) (hl : ks.length ≤ 1000) (b : Bool) (hb : b = true ↔ Long ks) :
    Calls Try.prog 38 #[.slice A n c, .int .i64 100] w fun e w' => e = .returned (.bool b) ∧ Below w.heap.size w w' := by
  have b1 : Below w.heap.size w (w.alloc (.cells #[.int .i64 100] 3)) := (Below.refl _ _).alloc (Nat.le_refl _) _
  have hh := contains_s (w.alloc (.cells #[.int .i64 100] 3)) w.heap.size A n c ks hn (hr.belowSize b1) hl (by rw [cell_new]; rfl) b hb
  clear hn hr hl hb
  have hmf : ∀ (fn : Fn) (first cap : Array Value) (w : World), (Instr.makeFunc fn first cap).run Try.prog w = .ok (.func fn first cap) w := fun _ _ _ _ => rfl
  have B1 := Lib.hid b1
  clear b1
  go_enter Try.func38, Try.ntmps38
  go_wp2_with (go_at_call 54; refine hh.mono ?_; rintro e w' ⟨rfl, rfl⟩)
  go_ret
  exact ⟨rfl, B1.out⟩

/-! children -/
theorem kid_any (w : World) (k : Int) (b : Bool) (hb : b = true ↔ ¬ (1 ≤ k ∧ k ≤ 4294967295)) :
    Calls Try.prog 57 #[.int .i64 k] w fun e w' => e = .returned (.bool b) ∧ w = w' := by
  by_cases h1 : k < 1
  · have HB := Lib.hid (show b = true from hb.2 (by omega))
    clear hb
    go_enter Try.func57, Try.ntmps57
    go_wp2_with fail
    go_ret
    exact ⟨ret_bool HB.out.symm, rfl⟩
  · have HB := Lib.hid (show b = decide ((4294967295 : Int) < k) by cases b <;> simp at hb ⊢ <;> omega)
    clear hb
    have h1' : decide (k < 1) = false := decide_eq_false h1
    go_enter Try.func57, Try.ntmps57
    go_wp2_with fail
    go_ret
    exact ⟨ret_bool HB.out.symm, rfl⟩
set_option maxHeartbeats 800000 in
theorem index_i (w : World) (A : Option Addr) (n c : Nat) (ks : List Int) (hn : n = ks.length) (hr : Row w w.heap.size A (ints ks)) (hl : ks.length ≤ 1000) :
    Calls Try.prog 62 #[.slice A n c, .func (.func 57) #[] #[]] w fun e w' => ∃ r : Int, e = .returned (.int .i64 r) ∧ (0 ≤ r ↔ ¬ ∀ k ∈ ks, 1 ≤ k ∧ k ≤ 4294967295) ∧ w = w' := by
  subst hn
  go_enter Try.func62, Try.ntmps62
  go_wp2_with fail
  go_loop [8] (fun i => ∃ k : Nat, k ≤ ks.length ∧ i = .int .i64 k ∧ ∀ (j : Nat) (h : j < ks.length), j < k → 1 ≤ ks[j] ∧ ks[j] ≤ 4294967295) (fun i => ks.length - (intOf i).toNat)
  case atStart => exact ⟨0, by omega, rfl, by intro j h q; omega⟩
  case round =>
    obtain ⟨k, hk, rfl, hpre⟩ := hrel
    have HP := Lib.hid hpre
    clear hpre
    by_cases hlt : k < ks.length
    · obtain ⟨ad, rfl, hb, hcell⟩ := ints_get hr k hlt
      by_cases hq : 1 ≤ ks[k] ∧ ks[k] ≤ 4294967295
      · have HN := Lib.hid (show ∀ (j : Nat) (h : j < ks.length), j < k + 1 → 1 ≤ ks[j] ∧ ks[j] ≤ 4294967295 from fun j h q => by
          by_cases e : j = k
          · subst e; exact hq
          · exact HP.out j h (by omega))
        have hh := kid_any w ks[k] false (by simp; omega)
        clear hq
        generalize ks[k] = q at *
        go_wp2_with (go_at_call 57; refine hh.mono ?_; rintro e w' ⟨rfl, rfl⟩)
        go_round
        case rel => exact ⟨k + 1, by omega, by go_num, HN.out⟩
        case measure => simp [intOf]; omega
      · have HL := Lib.hid (show ¬ ∀ k ∈ ks, 1 ≤ k ∧ k ≤ 4294967295 from fun h => hq (h _ (List.getElem_mem hlt)))
        have hh := kid_any w ks[k] true (by simp; omega)
        clear hq
        generalize ks[k] = q at *
        go_wp2_with (go_at_call 57; refine hh.mono ?_; rintro e w' ⟨rfl, rfl⟩)
        go_ret
        exact ⟨_, rfl, ⟨fun _ => HL.out, fun _ => by omega⟩, rfl⟩
    · obtain rfl : k = ks.length := by omega
      go_wp2_with fail
      go_ret
      have hall : ∀ k ∈ ks, 1 ≤ k ∧ k ≤ 4294967295 := fun t ht => by
        obtain ⟨j, hj, rfl⟩ := List.mem_iff_getElem.1 ht
        exact HP.out j hj hj
      exact ⟨_, rfl, ⟨fun h => by omega, fun ⟨x, hx, h⟩ => by have := hall x hx; omega⟩, rfl⟩
theorem contains_i (w : World) (A : Option Addr) (n c : Nat) (ks : List Int) (hn : n = ks.length) (hr : Row w w.heap.size A (ints ks)) (hl : ks.length ≤ 1000) (b : Bool) (hb : b = true ↔ ¬ ∀ k ∈ ks, 1 ≤ k ∧ k ≤ 4294967295) :
    Calls Try.prog 56 #[.slice A n c, .func (.func 57) #[] #[]] w fun e w' => e = .returned (.bool b) ∧ w = w' := by
  have hh := index_i w A n c ks hn hr hl
  have HB := Lib.hid hb
  clear hn hr hl hb
  go_enter Try.func56, Try.ntmps56
  go_wp2_with (go_at_call 62; refine hh.mono ?_; rintro e w' ⟨r, rfl, hr, rfl⟩; have HR := Lib.hid hr; clear hr)
  go_ret
  refine ⟨ret_bool ?_, rfl⟩
  have := HR.out.trans HB.out.symm
  cases b <;> simp at this ⊢ <;> omega
theorem areKids_any (w : World) (A : Option Addr) (n c : Nat) (ks : List Int) (hn : n = ks.length) (hr : Row w w.heap.size A (ints ks)) (hl : ks.length ≤ 1000) (b : Bool) (hb : b = true ↔ ∀ k ∈ ks, 1 ≤ k ∧ k ≤ 4294967295) :
    Calls Try.prog 40 #[.slice A n c] w fun e w' => e = .returned (.bool b) ∧ w = w' := by
  have hh := contains_i w A n c ks hn hr hl (!b) (by cases b <;> simp at hb ⊢ <;> exact hb)
  clear hn hr hl hb
  go_enter Try.func40, Try.ntmps40
  go_wp2_with (go_at_call 56; refine hh.mono ?_; rintro e w' ⟨rfl, rfl⟩)
  go_ret
  exact ⟨ret_bool (by simp), rfl⟩
/-! keys rise -/
set_option maxHeartbeats 1600000 in
theorem rise_any (w : World) (A : Option Addr) (n c : Nat) (ks : List ByteArray) (hn : n = ks.length) (hr : Row w w.heap.size A (strs ks)) (hl : ks.length ≤ 1000) (b : Bool) (hb : b = true ↔ Up ks) :
    Calls Try.prog 41 #[.slice A n c] w fun e w' => e = .returned (.bool b) ∧ Below w.heap.size w w' := by
  subst hn
  have HB := Lib.hid (hb.trans up_iff)
  clear hb
  go_enter Try.func41, Try.ntmps41
  go_wp2_with fail
  go_loopw [3] (fun i wr => ∃ k : Nat, 1 ≤ k ∧ (k ≤ ks.length ∨ k = 1) ∧ i = .int .i64 k ∧ (∀ j (h : j + 1 < ks.length), j + 1 < k → less ks[j] ks[j + 1] = true) ∧ ∃ m, wr = w.drewN m) (fun i _ => ks.length - (intOf i).toNat)
  case atStart => exact ⟨1, by omega, .inr rfl, rfl, by intro j h q; omega, 0, rfl⟩
  case round =>
    obtain ⟨k, hk1, hk2, rfl, hpre, m, rfl⟩ := hrel
    have HP := Lib.hid hpre
    clear hpre
    by_cases hlt : k < ks.length
    · obtain ⟨p, rfl⟩ : ∃ p, k = p + 1 := ⟨k - 1, by omega⟩
      obtain ⟨ad, rfl, hb1, hc1⟩ := strs_get hr p (by omega)
      obtain ⟨ad', e, hb2, hc2⟩ := strs_get hr (p + 1) hlt
      injection e with e
      subst e
      have hw1 : (((p + 1 : Nat) : Int) - 1) = (p : Int) := by omega
      have hw2 : IntKind.i64.wrap (p : Int) = (p : Int) := IntWalk.i64_in _ (by omega)
      have i1 : (p : Int) + 1 < (ks.length : Int) := by omega
      have i2 : (p : Int) < (ks.length : Int) := by omega
      have i3 : (0 : Int) ≤ (p : Int) + 1 := by omega
      have i4 : ((p : Int) + 1).toNat = p + 1 := by omega
      have hc3 : w.cell? ⟨ad.block, ad.off + (p + 1), none⟩ = some (.string ks[p + 1]) := by rw [← hc2]; simp [Addr.add]
      have hstep : ∀ (h : less ks[p] ks[p + 1] = true), ∀ j (h : j + 1 < ks.length), j + 1 < p + 1 + 1 → less ks[j] ks[j + 1] = true := fun h j hj q => by
        by_cases e : j = p
        · subst e; exact h
        · exact HP.out j hj (by omega)
      have HS := Lib.hid hstep
      have HN := Lib.hid (show less ks[p] ks[p + 1] = false → b = false from fun h => Bool.eq_false_iff.2 fun q => by rw [HB.out.1 q p hlt] at h; cases h)
      clear hstep
      have hd : less ks[p] ks[p + 1] = Op.bytesLess ks[p].data.toList ks[p + 1].data.toList := rfl
      rw [hd] at HS HN
      rw [← Lib.toList_data, ← Lib.toList_data] at HS HN
      clear hd
      generalize ks[p] = s at *
      generalize ks[p + 1] = t at *
      by_cases hst : Op.bytesLess s.toList t.toList = true
      · have HS' := Lib.hid (HS.out hst)
        go_wp2_with fail
        go_quiet (fail)
        go_wp2_with fail
        go_roundw
        case rel => exact ⟨p + 1 + 1, by omega, by omega, by go_num, HS'.out, _, rfl⟩
        case measure => simp [intOf]; omega
      · have hst : Op.bytesLess s.toList t.toList = false := by simpa using hst
        have HN' := Lib.hid (HN.out hst)
        go_wp2_with fail
        go_quiet (fail)
        go_wp2_with fail
        go_ret
        exact ⟨ret_bool HN'.out.symm, by simp only [World.drewN_drewN]; exact Base.below_drewN w _ _⟩
    · have HE := Lib.hid (show b = true from HB.out.2 fun i h => HP.out i h (by omega))
      go_wp2_with fail
      go_ret
      exact ⟨ret_bool HE.out.symm, Base.below_drewN w _ _⟩
/-! a node in a box -/
structure Bx (w : World) (g : Nat) (n : Nd) (h : Hd) : Prop where
  c0 : w.cell? ⟨g, 0, none⟩ = some (.bool n.leaf)
  c1 : w.cell? ⟨g, 1, none⟩ = some (.slice h.K n.keys.length h.kc)
  c2 : w.cell? ⟨g, 2, none⟩ = some (.slice h.V n.vals.length h.vc)
  c3 : w.cell? ⟨g, 3, none⟩ = some (.slice h.D n.kids.length h.dc)
  lt : g < w.heap.size
theorem Bx.below {w w' : World} {g : Nat} {n : Nd} {h : Hd} (b : Bx w g n h) (hb : Below w.heap.size w w') : Bx w' g n h :=
  ⟨(hb.cell (p := ⟨g, 0, none⟩) b.lt).trans b.c0, (hb.cell (p := ⟨g, 1, none⟩) b.lt).trans b.c1, (hb.cell (p := ⟨g, 2, none⟩) b.lt).trans b.c2, (hb.cell (p := ⟨g, 3, none⟩) b.lt).trans b.c3, Nat.lt_of_lt_of_le b.lt hb.size⟩
/-- the world behind a box -/
abbrev box (w : World) (n : Nd) (h : Hd) : World := w.alloc (.cells #[.bool n.leaf, .slice h.K n.keys.length h.kc, .slice h.V n.vals.length h.vc, .slice h.D n.kids.length h.dc] 25)
theorem bx_new (w : World) (n : Nd) (h : Hd) : Bx (box w n h) w.heap.size n h := ⟨by rw [cell_new]; rfl, by rw [cell_new]; rfl, by rw [cell_new]; rfl, by rw [cell_new]; rfl, by simp⟩
theorem box_below (w : World) (n : Nd) (h : Hd) : Below w.heap.size w (box w n h) := (Below.refl _ _).alloc (Nat.le_refl _) _

set_option maxRecDepth 100000 in
theorem counted_any (w : World) (n : Nd) (h : Hd) (b : Bool) (hb : b = true ↔ if n.leaf then n.vals.length = n.keys.length ∧ n.kids = [] else n.kids.length = n.keys.length + 1 ∧ n.vals = []) (hk : n.keys.length ≤ 1000) :
    Calls Try.prog 39 #[nv n h] w fun e w' => e = .returned (.bool b) ∧ Below w.heap.size w w' := by
  have B1 := Lib.hid (box_below w n h)
  have BX := Lib.hid (bx_new w n h)
  obtain ⟨leaf, ks, vs, ds⟩ := n
  simp only [nv, box] at *
  cases leaf
  · by_cases h1 : ds.length = ks.length + 1
    · have e1 : ((ds.length : Int) == (ks.length : Int) + 1) = true := by simp; omega
      have HB := Lib.hid (show b = decide (vs.length = 0) by rw [Bool.eq_iff_iff, hb, decide_eq_true_iff]; simp [h1])
      clear hb h1
      go_enter Try.func39, Try.ntmps39
      go_wp2_with fail
      go_ret
      refine ⟨ret_bool ?_, B1.out⟩
      rw [HB.out, Bool.eq_iff_iff]
      simp
    · have e1 : ((ds.length : Int) == (ks.length : Int) + 1) = false := by simp; omega
      have HB := Lib.hid (show b = false from Bool.eq_false_iff.2 fun q => h1 (by simpa using (hb.1 q).1))
      clear hb h1
      go_enter Try.func39, Try.ntmps39
      go_wp2_with fail
      go_ret
      exact ⟨ret_bool HB.out.symm, B1.out⟩
  · by_cases h1 : vs.length = ks.length
    · have e1 : ((vs.length : Int) == (ks.length : Int)) = true := by simp; omega
      have HB := Lib.hid (show b = decide (ds.length = 0) by rw [Bool.eq_iff_iff, hb, decide_eq_true_iff]; simp [h1])
      clear hb h1
      go_enter Try.func39, Try.ntmps39
      go_wp2_with fail
      go_ret
      refine ⟨ret_bool ?_, B1.out⟩
      rw [HB.out, Bool.eq_iff_iff]
      simp
    · have e1 : ((vs.length : Int) == (ks.length : Int)) = false := by simp; omega
      have HB := Lib.hid (show b = false from Bool.eq_false_iff.2 fun q => h1 (by simpa using (hb.1 q).1))
      clear hb h1
      go_enter Try.func39, Try.ntmps39
      go_wp2_with fail
      go_ret
      exact ⟨ret_bool HB.out.symm, B1.out⟩

theorem pick_b (p : Prop) : ∃ b : Bool, b = true ↔ p := by
  rcases Classical.em p with h | h
  · exact ⟨true, fun _ => h, fun _ => rfl⟩
  · exact ⟨false, fun q => (by cases q), fun q => absurd q h⟩
set_option maxRecDepth 100000 in
set_option maxHeartbeats 1600000 in
theorem check_any (w : World) (n : Nd) (h : Hd) (hl : Lay w n h) (hs : Small n) (er : Int) (he : Chk n er) :
    Calls Try.prog 17 #[nv n h] w fun e w' => e = .returned (.int .i64 er) ∧ Below w.heap.size w w' := by
  have b1 := box_below w n h
  have bx := bx_new w n h
  have hl1 := hl.below b1
  obtain ⟨lk, hlk⟩ := pick_b (Long n.keys)
  obtain ⟨lv, hlv⟩ := pick_b (Long n.vals)
  obtain ⟨cb, hcb⟩ := pick_b (if n.leaf then n.vals.length = n.keys.length ∧ n.kids = [] else n.kids.length = n.keys.length + 1 ∧ n.vals = [])
  obtain ⟨kb, hkb⟩ := pick_b (∀ k ∈ n.kids, 1 ≤ k ∧ k ≤ 4294967295)
  obtain ⟨ub, hub⟩ := pick_b (Up n.keys)
  have HF := Lib.hid (show Fine n ↔ cb = true ∧ kb = true ∧ ub = true by rw [hcb, hkb, hub]; rfl)
  have HE := Lib.hid he
  have HA := Lib.hid (fun w' (hb : Below (box w n h).heap.size (box w n h) w') => anyLonger_any w' h.K n.keys.length h.kc n.keys rfl (hl1.below hb).k hs.k lk hlk)
  have HV := Lib.hid (fun w' (hb : Below (box w n h).heap.size (box w n h) w') => anyLonger_any w' h.V n.vals.length h.vc n.vals rfl (hl1.below hb).v hs.v lv hlv)
  have HC := Lib.hid (fun w' => counted_any w' n h cb hcb hs.k)
  have HK := Lib.hid (fun w' (hb : Below (box w n h).heap.size (box w n h) w') => areKids_any w' h.D n.kids.length h.dc n.kids rfl (hl1.below hb).d hs.d kb hkb)
  have HU := Lib.hid (fun w' (hb : Below (box w n h).heap.size (box w n h) w') => rise_any w' h.K n.keys.length h.kc n.keys rfl (hl1.below hb).k hs.k ub hub)
  have HX := Lib.hid (fun w' (hb : Below (box w n h).heap.size (box w n h) w') => bx.below hb)
  have HB := Lib.hid (fun w' (hb : Below (box w n h).heap.size (box w n h) w') => Below.step b1 hb)
  have HLK := Lib.hid hlk
  have HLV := Lib.hid hlv
  clear hl hs he hl1 hlk hlv hcb hkb hub bx b1
  go_enter Try.func17, Try.ntmps17
  go_wp2_with fail
  refine (HA.out _ (Below.refl _ _)).mono ?_
  rintro e w1 ⟨rfl, b1⟩
  obtain ⟨c0, c1, c2, c3, _⟩ := HX.out w1 b1
  cases lk
  case true =>
    have HEE := Lib.hid (show er = 51 by rcases HE.out with ⟨h1, h2⟩ | ⟨h1, h2⟩ | ⟨h1, h2⟩ <;> first | exact h2 | exact absurd (.inl (HLK.out.1 rfl)) h1)
    go_wp2_with fail
    go_ret
    exact ⟨by rw [HEE.out]; rfl, HB.out w1 b1⟩
  case false =>
    go_wp2_with fail
    refine (HV.out w1 b1).mono ?_
    rintro e w2 ⟨rfl, b2⟩
    have b2 := Below.step b1 b2
    obtain ⟨d0, d1, d2, d3, _⟩ := HX.out w2 b2
    cases lv
    case true =>
      have HEE := Lib.hid (show er = 51 by rcases HE.out with ⟨h1, h2⟩ | ⟨h1, h2⟩ | ⟨h1, h2⟩ <;> first | exact h2 | exact absurd (.inr (HLV.out.1 rfl)) h1)
      go_wp2_with fail
      go_ret
      exact ⟨by rw [HEE.out]; rfl, HB.out w2 b2⟩
    case false =>
      have HN := Lib.hid (show ¬ (Long n.keys ∨ Long n.vals) from fun q => q.elim (fun q => by have := HLK.out.2 q; cases this) (fun q => by have := HLV.out.2 q; cases this))
      have HE5 := Lib.hid (show ¬ Fine n → er = 50 from fun q => by rcases HE.out with ⟨h1, h2⟩ | ⟨h1, h2, h3⟩ | ⟨h1, h2, h3⟩ <;> first | exact h3 | exact absurd h1 HN.out | exact absurd h2 q)
      have HE0 := Lib.hid (show Fine n → er = 0 from fun q => by rcases HE.out with ⟨h1, h2⟩ | ⟨h1, h2, h3⟩ | ⟨h1, h2, h3⟩ <;> first | exact h3 | exact absurd h1 HN.out | exact absurd q h2)
      clear HN HLK HLV HE c0 c1 c2 c3
      go_wp2_with fail
      refine (HC.out w2).mono ?_
      rintro e w3 ⟨rfl, b3⟩
      have b3 := Below.step b2 b3
      obtain ⟨c0, c1, c2, c3, _⟩ := HX.out w3 b3
      clear d0 d1 d2 d3
      cases cb
      case false =>
        have HEE := Lib.hid (HE5.out fun q => by have := (HF.out.1 q).1; cases this)
        go_wp2_with fail
        go_ret
        exact ⟨by rw [HEE.out]; rfl, HB.out w3 b3⟩
      case true =>
        go_wp2_with fail
        refine (HK.out w3 b3).mono ?_
        rintro e w4 ⟨rfl, rfl⟩
        cases kb
        case false =>
          have HEE := Lib.hid (HE5.out fun q => by have := (HF.out.1 q).2.1; cases this)
          go_wp2_with fail
          go_ret
          exact ⟨by rw [HEE.out]; rfl, HB.out w3 b3⟩
        case true =>
          go_wp2_with fail
          refine (HU.out w3 b3).mono ?_
          rintro e w4 ⟨rfl, b4⟩
          have b4 := Below.step b3 b4
          cases ub
          case false =>
            have HEE := Lib.hid (HE5.out fun q => by have := (HF.out.1 q).2.2; cases this)
            go_wp2_with fail
            go_ret
            exact ⟨by rw [HEE.out]; rfl, HB.out w4 b4⟩
          case true =>
            have HEE := Lib.hid (HE0.out (HF.out.2 (by simp)))
            go_wp2_with fail
            go_ret
            exact ⟨by rw [HEE.out]; rfl, HB.out w4 b4⟩
end Go.Proofs.Ytpcpfcllgadghaa.NodeCheck
