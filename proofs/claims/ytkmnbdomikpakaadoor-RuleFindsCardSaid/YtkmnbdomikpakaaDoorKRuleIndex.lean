/- RuleAll, RuleIndex. -/
import Derived.Test.YtkmnbdomikpakaaDoorKRuleFold
namespace Go.Proofs.YtkmnbdomikpakaaDoor.RuleAll
open Go.RowKit Base KeyPlain TuplePlain TupleRef RulePlain RuleMem RuleRec RuleFew RuleChk RuleAlike RuleGl TurnB RuleWalk RuleFold

mutual
/-- an expression, and each part of it -/
def allE (p : Ex → Bool) : Ex → Bool
  | .mk op nm fo ps => p (.mk op nm fo ps) && allL p ps
def allL (p : Ex → Bool) : List Ex → Bool
  | [] => true
  | e :: l => allE p e && allL p l
end
/-- texts that can be keys -/
def wideS (op nm fo : ByteArray) : Bool := decide (op.size ≤ 1000000000) && decide (nm.size ≤ 1000000000) && decide (fo.size ≤ 1000000000)
def wide (e : Ex) : Bool := allE (fun e => wideS e.op e.nm e.fo) e
theorem allL_mem {p : Ex → Bool} : ∀ {l : List Ex} {e : Ex}, e ∈ l → allL p l = true → allE p e = true
  | x :: l, e, h, hs => by
    rw [allL, Bool.and_eq_true] at hs
    rcases List.mem_cons.1 h with rfl | h
    · exact hs.1
    · exact allL_mem h hs.2
theorem wide_part (op nm fo : ByteArray) (ps : List Ex) (h : wide (.mk op nm fo ps) = true) : ∀ e, e ∈ ps → wide e = true := fun e he => by
  unfold wide at h ⊢
  rw [allE, Bool.and_eq_true] at h
  exact allL_mem he h.2
theorem wide_own {e : Ex} (h : wide e = true) : e.op.size ≤ 1000000000 ∧ e.nm.size ≤ 1000000000 ∧ e.fo.size ≤ 1000000000 := by
  obtain ⟨op, nm, fo, ps⟩ := e
  unfold wide at h
  rw [allE, Bool.and_eq_true] at h
  have := h.1
  simp only [wideS, Bool.and_eq_true, decide_eq_true_eq] at this
  exact ⟨this.1.1, this.1.2, this.2⟩
def stP (p : Ex → Bool) (_ : Unit) (e : Ex) (_ : Nat) : Unit × Bool := ((), p e)
mutual
theorem walkE_P (p : Ex → Bool) : ∀ (e : Ex) (d : Nat) (s : Unit), (walkE (stP p) d s e).2 = allE p e
  | .mk op nm fo ps, d, s => by
    have h : stP p s (.mk op nm fo ps) d = ((), p (.mk op nm fo ps)) := rfl
    have k := walkL_P p ps (d + 1) ()
    rw [walkE, h, allE]
    cases p (.mk op nm fo ps) with
    | true => exact k
    | false => rfl
theorem walkL_P (p : Ex → Bool) : ∀ (l : List Ex) (d : Nat) (s : Unit), (walkL (stP p) d s l).2 = allL p l
  | [], d, s => by rw [walkL, allL]
  | e :: l, d, s => by
    have h := walkE_P p e d s
    have k := walkL_P p l d (walkE (stP p) d s e).1
    rw [walkL, allL, ← h, ← k]
    cases (walkE (stP p) d s e).2 <;> rfl
end
/-- what is asked of what all calls -/
def Right (p : Ex → Bool) (Good : World → Prop) (rf : Nat) (rcaps : Array Value) : Prop :=
  ∀ (e : Ex) (q : List Value) (w : World), Lay w w.heap.size e q → wide e = true → Good w → Calls Tryd.prog rf (#[.agg q.toArray] ++ rcaps) w fun r w' => r = .returned (.bool (p e)) ∧ Below w.heap.size w w'
set_option maxRecDepth 100000 in
set_option maxHeartbeats 3200000 in
theorem all1_asks (p : Ex → Bool) (Good : World → Prop) (rf : Nat) (rcaps : Array Value) (hen : Enters Tryd.prog rf) (hgood : ∀ w w', Good w → Below w.heap.size w w' → Good w') (hr : Right p Good rf rcaps) (B R : Nat) :
    Asks (stP p) (fun w _ => Good w ∧ w.heap[R]? = some (.cells #[.func (.func rf) #[] rcaps] 56 (0, 0))) (fun e => wide e = true) (fun _ => False) B 61 #[.pointer (some ⟨R, 0, none⟩)] := by
  intro s e q d w hL hBw _ hd hwd hI
  have hLw := hL.imp fun _ _ h => h.more hBw
  obtain ⟨A, c, rfl, _, _⟩ := hL.open
  show Calls _ _ #[.agg #[.string e.op, .string e.nm, .string e.fo, .slice A e.ps.length c], .int .i64 (d : Int), .pointer (some ⟨R, 0, none⟩)] w _
  obtain ⟨w1, hw1⟩ : ∃ v, v = w.alloc (.cells #[.string e.op, .string e.nm, .string e.fo, .slice A e.ps.length c] 34) := ⟨_, rfl⟩
  obtain ⟨b, hbe⟩ : ∃ v, v = w.heap.size := ⟨_, rfl⟩
  have hb1 : Below w.heap.size w w1 := by rw [hw1]; exact al _ _
  have a1 : w1.heap[b]? = some (.cells #[.string e.op, .string e.nm, .string e.fo, .slice A e.ps.length c] 34 (0, 0)) := by rw [hw1, hbe]; exact heap_alloc_new w _
  have HW := Lib.hid hw1
  have HBE := Lib.hid hbe
  clear hw1 hbe
  have hR1 := (hb1.block R (heap_lt hI.2)).trans hI.2
  have hc1 : w1.cell? ⟨R, 0, none⟩ = some (.func (.func rf) #[] rcaps) := by simp [World.cell?, hR1]
  obtain ⟨d0, d1, d2, d3⟩ := four_at a1
  have hcall := hr e _ w1 (hLw.later hb1) hwd (hgood _ _ hI.1 hb1)
  have HG := Lib.hid (hgood _ _ hI.1 hb1)
  have HR := Lib.hid hR1
  have HB := Lib.hid hb1
  have HGD := Lib.hid hgood
  have henter := fun args (w : World) => hen args w
  clear hb1 hI hL hLw a1 hR1 hr hgood hd hBw hwd
  unfold stP
  dsimp only
  generalize p e = pe at *
  go_enter Tryd.func61, Tryd.ntmps61
  go_upto_region 1 with fail
  try rw [← HW.out]
  try rw [← HBE.out]
  clear HW
  go_wp2_with fail
  (with_reducible refine hcall.mono ?_)
  clear hcall d0 d1 d2 d3 hc1
  rintro r w2 ⟨rfl, hb⟩
  have HX := Lib.hid hb
  clear hb
  go_wp2_with fail
  go_ret
  exact ⟨rfl, ⟨HGD.out _ _ HG.out HX.out, (HX.out.block R (heap_lt HR.out)).trans HR.out⟩, Turn.ofBelow (Below.step HB.out HX.out)⟩
def allR (p : Ex → Bool) (k : Kd) : Bool := k.rules.all fun r => allE p r.e
def allK (p : Ex → Bool) (l : List Kd) : Bool := l.all (allR p)
set_option maxRecDepth 100000 in
set_option maxHeartbeats 12800000 in
theorem all_any (p : Ex → Bool) (Good : World → Prop) (rf : Nat) (rcaps : Array Value) (hen : Enters Tryd.prog rf) (hgood : ∀ w w', Good w → Below w.heap.size w w' → Good w') (hr : Right p Good rf rcaps)
    (A : Option Addr) (c : Nat) (l : List Kd) (w : World) (hL : LayL w w.heap.size A l) (hn : l.length ≤ maxLen) (hd : ∀ k, k ∈ l → ∀ r, r ∈ k.rules → r.e.deep ≤ 1000000000 ∧ wide r.e = true) (hG : Good w) :
    Calls Tryd.prog 43 #[.slice A l.length c, .func (.func rf) #[] rcaps] w fun e w' => e = .returned (.bool (allK p l)) ∧ Below w.heap.size w w' := by
  unfold maxLen at hn
  obtain ⟨w1, hw1⟩ : ∃ v, v = w.alloc (.cells #[.func (.func rf) #[] rcaps] 56) := ⟨_, rfl⟩
  obtain ⟨b, hbe⟩ : ∃ v, v = w.heap.size := ⟨_, rfl⟩
  have hb1 : Below w.heap.size w w1 := by rw [hw1]; exact al _ _
  have a1 : w1.heap[b]? = some (.cells #[.func (.func rf) #[] rcaps] 56 (0, 0)) := by rw [hw1, hbe]; exact heap_alloc_new w _
  have HW := Lib.hid hw1
  have HBE := Lib.hid hbe
  clear hw1 hbe
  have HL := Lib.hid (fun (w' : World) (hw' : Below w1.heap.size w1 w') => hL.later (Below.step hb1 hw'))
  have HCALL := Lib.hid (fun (e : Ex) (q : List Value) (w' : World) (hw' : Below w1.heap.size w1 w') (hL : Lay w' w'.heap.size e q) (hd : e.deep ≤ 1000000000 ∧ wide e = true) =>
    walk_any (stP p) (fun w _ => Good w ∧ w.heap[b]? = some (.cells #[.func (.func rf) #[] rcaps] 56 (0, 0))) (fun e => wide e = true) wide_part (fun _ => False) w'.heap.size 61 #[.pointer (some ⟨b, 0, none⟩)] (enters_of Tryd.func61 (by kernel_rfl) rfl) (fun _ h => h.elim)
      (fun w w' _ h hb => ⟨hgood w w' h.1 hb, (hb.block b (heap_lt h.2)).trans h.2⟩) (all1_asks p Good rf rcaps hen hgood hr w'.heap.size b) e.size e q 1 () w' (Nat.le_refl _) hL (Nat.le_refl _) (fun _ h => h.elim) (by have := hd.1; omega) hd.2 ⟨hgood _ _ hG (Below.step hb1 hw'), (hw'.block b (heap_lt a1)).trans a1⟩)
  have HDP := Lib.hid hd
  have HB1 := Lib.hid hb1
  have hmf : ∀ (fn : Fn) (first cap : Array Value) (w : World), (Instr.makeFunc fn first cap).run Tryd.prog w = .ok (.func fn first cap) w := fun _ _ _ _ => rfl
  clear hL hb1 a1 hd hgood hr hen hG
  go_enter Tryd.func43, Tryd.ntmps43
  go_upto_region 1 with fail
  try rw [← HW.out]
  try rw [← HBE.out]
  clear HW
  go_wp2_with fail
  go_loopw [6, 8, 11] (fun z1 z2 i wr => z1 = z1 ∧ z2 = z2 ∧ ∃ k : Nat, k ≤ l.length ∧ i = .int .i64 k ∧ (l.take k).all (allR p) = true ∧ Below w1.heap.size w1 wr) (fun _ _ i _ => l.length - (intOf i).toNat)
  case atStart => exact ⟨rfl, rfl, 0, by omega, rfl, rfl, Below.refl _ _⟩
  case round =>
    obtain ⟨_, _, k, hk, rfl, hpre, hB⟩ := hrel
    have HBW := Lib.hid hB
    by_cases hlt : k < l.length
    rotate_left
    · have HM := Lib.hid (show allK p l = true from by rw [List.take_of_length_le (by omega)] at hpre; exact hpre)
      have hni : ¬ (k : Int) < (l.length : Int) := by omega
      clear hpre
      go_wp2_with fail
      go_ret
      exact ⟨ret_bool HM.out.symm, Below.step HB1.out HBW.out⟩
    obtain ⟨ad, K, c', rfl, hks, hrs, hml⟩ := kind_see (HL.out wr hB) k hlt
    have HCUT := Lib.hid (fun (h : allR p l[k] = false) => show allK p l = false from List.all_eq_false.2 ⟨_, List.getElem_mem hlt, by rw [h]; simp⟩)
    have HNX := Lib.hid (show allR p l[k] = true → (l.take (k + 1)).all (allR p) = true from fun h => by rw [all_take' _ _ _ hlt, hpre, h]; rfl)
    have HDK := Lib.hid (HDP.out _ (List.getElem_mem hlt))
    have HLT := Lib.hid (Nat.not_le_of_lt hlt)
    generalize l[k] = kd at *
    obtain ⟨nm, rs⟩ := kd
    simp only at hml hks hrs
    unfold maxLen at hml
    have k0 := hks.at0
    have k1 := hks.at_ 0 rfl
    obtain ⟨w3, hw13⟩ : ∃ v, v = wr.alloc (.cells #[.string nm, .slice K rs.length c'] 42) := ⟨_, rfl⟩
    obtain ⟨b3, hbe3⟩ : ∃ v, v = wr.heap.size := ⟨_, rfl⟩
    have hb13 : Below wr.heap.size wr w3 := by rw [hw13]; exact al _ _
    have a13 : w3.heap[b3]? = some (.cells #[.string nm, .slice K rs.length c'] 42 (0, 0)) := by rw [hw13, hbe3]; exact heap_alloc_new wr _
    have HW3 := Lib.hid hw13
    have HBE3 := Lib.hid hbe3
    clear hw13 hbe3
    have H3A := Lib.hid a13
    have HRL := Lib.hid (hrs.imp (see_later hb13) fun _ _ _ h => h.imp (see_later hb13))
    have HB3 := Lib.hid (Below.step hB hb13)
    clear hks hrs hb13 hB hpre a13
    obtain ⟨p0, p1⟩ := two_at H3A.out
    go_upto_region 4 with fail
    try rw [← HW3.out]
    try rw [← HBE3.out]
    clear HW3
    go_wp2_with fail
    clear p0 p1 k0 k1
    go_loopw [8, 18] (fun z i wr => z = z ∧ ∃ m : Nat, m ≤ rs.length ∧ i = .int .i64 m ∧ (rs.take m).all (fun r => allE p r.e) = true ∧ Below w3.heap.size w3 wr) (fun _ i _ => rs.length - (intOf i).toNat)
    case atStart => exact ⟨rfl, 0, by omega, rfl, rfl, Below.refl _ _⟩
    case round =>
      obtain ⟨_, m, hm, rfl, hpre, hB⟩ := hrel
      have HBV := Lib.hid hB
      by_cases hlm : m < rs.length
      rotate_left
      · have HM := Lib.hid (HNX.out (by rw [List.take_of_length_le (by omega)] at hpre; exact hpre))
        have hni : ¬ (m : Int) < (rs.length : Int) := by omega
        have HBX := Lib.hid (Below.step HB3.out HBV.out)
        clear hpre
        have hlt9 : k < l.length := Nat.lt_of_not_le HLT.out
        go_wp2_with fail
        go_roundw
        case rel => exact ⟨trivial, trivial, k + 1, by omega, by go_num, HM.out, HBX.out⟩
        case measure => simp [intOf]; omega
      obtain ⟨bd, x1, x2, x3, x4, rfl, hrs, hy⟩ := rule_see (HRL.out.imp (see_later hB) fun _ _ _ h => h.imp (see_later hB)) m hlm
      have HCU2 := Lib.hid (fun (h : allE p (rs[m]).e = false) => HCUT.out (show allR p ⟨nm, rs⟩ = false from List.all_eq_false.2 ⟨_, List.getElem_mem hlm, by rw [h]; simp⟩))
      have HNX2 := Lib.hid (show allE p (rs[m]).e = true → (rs.take (m + 1)).all (fun r => allE p r.e) = true from fun h => by rw [all_take' _ _ _ hlm, hpre, h]; rfl)
      have HDR := Lib.hid (HDK.out _ (List.getElem_mem hlm))
      have HLM := Lib.hid (Nat.not_le_of_lt hlm)
      generalize rs[m] = rl at *
      obtain ⟨rel, e⟩ := rl
      simp only at hrs hy
      obtain ⟨Z, z, hxe, _⟩ := hy.open
      simp only [List.cons.injEq, and_true] at hxe
      obtain ⟨rfl, rfl, rfl, rfl⟩ := hxe
      have r0 := hrs.at0
      have r1 := hrs.at_ 0 rfl
      have r2 := hrs.at_ 1 rfl
      have r3 := hrs.at_ 2 rfl
      have r4 := hrs.at_ 3 rfl
      obtain ⟨w4, hw14⟩ : ∃ v, v = wr.alloc (.cells #[.string rel, .string e.op, .string e.nm, .string e.fo, .slice Z e.ps.length z] 47) := ⟨_, rfl⟩
      obtain ⟨b4, hbe4⟩ : ∃ v, v = wr.heap.size := ⟨_, rfl⟩
      have hb14 : Below wr.heap.size wr w4 := by rw [hw14]; exact al _ _
      have a14 : w4.heap[b4]? = some (.cells #[.string rel, .string e.op, .string e.nm, .string e.fo, .slice Z e.ps.length z] 47 (0, 0)) := by rw [hw14, hbe4]; exact heap_alloc_new wr _
      have HW4 := Lib.hid hw14
      have HBE4 := Lib.hid hbe4
      clear hw14 hbe4
      have hcall := HCALL.out e _ w4 (Below.step HB3.out (Below.step hB hb14)) (hy.later hb14) HDR.out
      rw [walkE_P, show ((1 : Nat) : Int) = 1 from rfl] at hcall
      obtain ⟨be, hbe⟩ : ∃ v, v = allE p e := ⟨_, rfl⟩
      rw [← hbe] at hcall
      have HBE2 := Lib.hid hbe
      have HB4 := Lib.hid (Below.step hB hb14)
      obtain ⟨q0, q1, q2, q3, q4⟩ := five_at a14
      clear hbe hrs hy hb14 hB hpre a14
      go_upto_region 7 with fail
      try rw [← HW4.out]
      try rw [← HBE4.out]
      clear HW4
      go_wp2_with fail
      (with_reducible refine hcall.mono ?_)
      clear hcall q0 q1 q2 q3 q4 r0 r1 r2 r3 r4
      rintro e' w5 ⟨rfl, _, bb⟩
      have HB5 := Lib.hid (Below.step HB4.out bb.still)
      clear bb
      cases be with
      | false =>
        go_wp2_with fail
        go_ret
        exact ⟨ret_bool (HCU2.out HBE2.out.symm).symm, Below.step HB1.out (Below.step HB3.out HB5.out)⟩
      | true =>
        have hlm9 : m < rs.length := Nat.lt_of_not_le HLM.out
        go_wp2_with fail
        go_roundw
        case rel => exact ⟨trivial, m + 1, by omega, by go_num, HNX2.out HBE2.out.symm, HB5.out⟩
        case measure => simp [intOf]; omega
end Go.Proofs.YtkmnbdomikpakaaDoor.RuleAll
namespace Go.Proofs.YtkmnbdomikpakaaDoor.RuleIndex
open Go.RowKit Base KeyPlain TuplePlain TupleRef RulePlain RuleMem RuleRec RuleFew RuleChk RuleAlike RuleGl TurnB RuleWalk RuleFold RuleAll

/-- where the first is that passes; -1 if none does -/
def fIx {α : Type} (p : α → Bool) (l : List α) : Int := match l.findIdx? p with
  | some i => (i : Int)
  | none => -1
theorem fIx_none {α : Type} {p : α → Bool} {l : List α} (h : l.any p = false) : fIx p l = -1 := by
  have e : l.findIdx? p = none := by
    rw [List.findIdx?_eq_none_iff]
    exact fun x hx => by simpa using List.any_eq_false.1 h x hx
  unfold fIx
  rw [e]
theorem fIx_some {α : Type} {p : α → Bool} {l : List α} {k : Nat} (hk : k < l.length) (h : (l.take k).any p = false) (hp : p l[k] = true) : fIx p l = k := by
  have e : l.findIdx? p = some k := by
    rw [List.findIdx?_eq_some_iff_getElem]
    refine ⟨hk, hp, fun j hj => ?_⟩
    have := List.any_eq_false.1 h (l[j]) (by rw [List.mem_take_iff_getElem]; exact ⟨j, by omega, rfl⟩)
    simpa using this
  unfold fIx
  rw [e]
theorem fIx_low {α : Type} (p : α → Bool) (l : List α) : -1 ≤ fIx p l := by
  unfold fIx
  split <;> omega
theorem fIx_any {α : Type} (p : α → Bool) (l : List α) : decide (0 ≤ fIx p l) = l.any p := by
  cases h : l.any p with
  | false => rw [fIx_none h]; rfl
  | true =>
    unfold fIx
    cases e : l.findIdx? p with
    | none =>
      rw [List.findIdx?_eq_none_iff] at e
      obtain ⟨x, hx, hp⟩ := List.any_eq_true.1 h
      rw [e x hx] at hp
      cases hp
    | some i => exact decide_eq_true (by simp)
/-- what is asked of a test of Kds -/
def TestK (p : Kd → Bool) (Good : World → Prop) (rf : Nat) (rcaps : Array Value) : Prop :=
  ∀ (k : Kd) (q : List Value) (w : World), LayK w w.heap.size k q → Good w → Calls Tryd.prog rf (#[.agg q.toArray] ++ rcaps) w fun r w' => r = .returned (.bool (p k)) ∧ Below w.heap.size w w'
set_option maxRecDepth 100000 in
set_option maxHeartbeats 6400000 in
theorem indexK_any (p : Kd → Bool) (Good : World → Prop) (rf : Nat) (rcaps : Array Value) (hen : Enters Tryd.prog rf) (hgood : ∀ w w', Good w → Below w.heap.size w w' → Good w')
    (A : Option Addr) (c : Nat) (l : List Kd) (w : World) (hL : SlOf w w.heap.size 2 (LayK w w.heap.size) A l) (hn : l.length ≤ maxLen) (hr : ∀ (k : Kd) (q : List Value) (w : World), k ∈ l → LayK w w.heap.size k q → Good w → Calls Tryd.prog rf (#[.agg q.toArray] ++ rcaps) w fun r w' => r = .returned (.bool (p k)) ∧ Below w.heap.size w w') (hG : Good w) :
    Calls Tryd.prog 33 #[.slice A l.length c, .func (.func rf) #[] rcaps] w fun e w' => e = .returned (.int .i64 (fIx p l)) ∧ Below w.heap.size w w' := by
  unfold maxLen at hn
  have HL := Lib.hid (fun (w' : World) (hw' : Below w.heap.size w w') => (hL.imp (see_later hw') fun _ _ _ h => h.imp (see_later hw')))
  have HR := Lib.hid (fun (k : Kd) (hk : k ∈ l) (q : List Value) (w' : World) (hw' : Below w.heap.size w w') (h : LayK w' w'.heap.size k q) => hr k q w' hk h (hgood _ _ hG hw'))
  have henter := fun args (w : World) => hen args w
  clear hL hr hgood hG hen
  go_enter Tryd.func33, Tryd.ntmps33
  go_wp2_with fail
  go_loopw [5, 8] (fun z i wr => z = z ∧ ∃ k : Nat, k ≤ l.length ∧ i = .int .i64 k ∧ (l.take k).any p = false ∧ Below w.heap.size w wr) (fun _ i _ => l.length - (intOf i).toNat)
  case atStart => exact ⟨rfl, 0, by omega, rfl, rfl, Below.refl _ _⟩
  case round =>
    obtain ⟨_, k, hk, rfl, hpre, hB⟩ := hrel
    have HB := Lib.hid hB
    by_cases hlt : k < l.length
    rotate_left
    · have HM := Lib.hid (show fIx p l = -1 from fIx_none (by rw [List.take_of_length_le (by omega)] at hpre; exact hpre))
      have hni : ¬ (k : Int) < (l.length : Int) := by omega
      clear hpre
      go_wp2_with fail
      go_ret
      exact ⟨ret_int HM.out.symm, HB.out⟩
    obtain ⟨ad, K, c', rfl, hks, hrs, hml⟩ := kind_see (HL.out wr hB) k hlt
    have k0 := hks.at0
    have k1 := hks.at_ 0 rfl
    have hlay : LayK wr wr.heap.size l[k] [.string (l[k]).name, .slice K (l[k]).rules.length c'] := ⟨K, c', rfl, hrs, hml⟩
    clear hks hrs hml
    have HHIT := Lib.hid (fun (h : p l[k] = true) => show fIx p l = k from fIx_some hlt hpre h)
    have HNX := Lib.hid (show p l[k] = false → (l.take (k + 1)).any p = false from fun h => by rw [any_take _ _ _ hlt, hpre, h]; rfl)
    have hcall := HR.out _ (List.getElem_mem hlt) _ wr hB hlay
    have HLT := Lib.hid (Nat.not_le_of_lt hlt)
    generalize l[k] = kd at *
    generalize p kd = pk at *
    clear hpre hlay hB
    go_wp2_with fail
    (with_reducible refine hcall.mono ?_)
    clear hcall
    rintro r w2 ⟨rfl, hb⟩
    have HB2 := Lib.hid (Below.step HB.out hb)
    clear hb
    cases pk with
    | true =>
      go_wp2_with fail
      go_ret
      exact ⟨ret_int (HHIT.out trivial).symm, HB2.out⟩
    | false =>
      have hlt9 : k < l.length := Nat.lt_of_not_le HLT.out
      go_wp2_with fail
      go_roundw
      case rel => exact ⟨trivial, k + 1, by omega, by go_num, HNX.out trivial, HB2.out⟩
      case measure => simp [intOf]; omega
set_option maxHeartbeats 3200000 in
theorem containsK_any (p : Kd → Bool) (Good : World → Prop) (rf : Nat) (rcaps : Array Value) (hen : Enters Tryd.prog rf) (hgood : ∀ w w', Good w → Below w.heap.size w w' → Good w')
    (A : Option Addr) (c : Nat) (l : List Kd) (w : World) (hL : SlOf w w.heap.size 2 (LayK w w.heap.size) A l) (hn : l.length ≤ maxLen) (hr : ∀ (k : Kd) (q : List Value) (w : World), k ∈ l → LayK w w.heap.size k q → Good w → Calls Tryd.prog rf (#[.agg q.toArray] ++ rcaps) w fun r w' => r = .returned (.bool (p k)) ∧ Below w.heap.size w w') (hG : Good w) :
    Calls Tryd.prog 56 #[.slice A l.length c, .func (.func rf) #[] rcaps] w fun e w' => e = .returned (.bool (l.any p)) ∧ Below w.heap.size w w' := by
  have hcall := indexK_any p Good rf rcaps hen hgood A c l w hL hn hr hG
  have HI := Lib.hid (fIx_any p l)
  have hle := fIx_low p l
  generalize fIx p l = r at *
  generalize l.any p = b at *
  clear hL hr
  go_enter Tryd.func56, Tryd.ntmps56
  go_wp2_with fail
  (with_reducible refine hcall.mono ?_)
  clear hcall
  rintro r w2 ⟨rfl, hb⟩
  go_wp2_with fail
  go_ret
  exact ⟨ret_bool HI.out, hb⟩
/-- what is asked of a test of Rls -/
def TestR (p : Rl → Bool) (Good : World → Prop) (rf : Nat) (rcaps : Array Value) : Prop :=
  ∀ (k : Rl) (q : List Value) (w : World), LayR w w.heap.size k q → Good w → Calls Tryd.prog rf (#[.agg q.toArray] ++ rcaps) w fun r w' => r = .returned (.bool (p k)) ∧ Below w.heap.size w w'
set_option maxRecDepth 100000 in
set_option maxHeartbeats 6400000 in
theorem indexR_any (p : Rl → Bool) (Good : World → Prop) (rf : Nat) (rcaps : Array Value) (hen : Enters Tryd.prog rf) (hgood : ∀ w w', Good w → Below w.heap.size w w' → Good w')
    (A : Option Addr) (c : Nat) (l : List Rl) (w : World) (hL : SlOf w w.heap.size 5 (LayR w w.heap.size) A l) (hn : l.length ≤ maxLen) (hr : ∀ (k : Rl) (q : List Value) (w : World), k ∈ l → LayR w w.heap.size k q → Good w → Calls Tryd.prog rf (#[.agg q.toArray] ++ rcaps) w fun r w' => r = .returned (.bool (p k)) ∧ Below w.heap.size w w') (hG : Good w) :
    Calls Tryd.prog 35 #[.slice A l.length c, .func (.func rf) #[] rcaps] w fun e w' => e = .returned (.int .i64 (fIx p l)) ∧ Below w.heap.size w w' := by
  unfold maxLen at hn
  have HL := Lib.hid (fun (w' : World) (hw' : Below w.heap.size w w') => (hL.imp (see_later hw') fun _ _ _ h => h.imp (see_later hw')))
  have HR := Lib.hid (fun (k : Rl) (hk : k ∈ l) (q : List Value) (w' : World) (hw' : Below w.heap.size w w') (h : LayR w' w'.heap.size k q) => hr k q w' hk h (hgood _ _ hG hw'))
  have henter := fun args (w : World) => hen args w
  clear hL hr hgood hG hen
  go_enter Tryd.func35, Tryd.ntmps35
  go_wp2_with fail
  go_loopw [5, 8] (fun z i wr => z = z ∧ ∃ k : Nat, k ≤ l.length ∧ i = .int .i64 k ∧ (l.take k).any p = false ∧ Below w.heap.size w wr) (fun _ i _ => l.length - (intOf i).toNat)
  case atStart => exact ⟨rfl, 0, by omega, rfl, rfl, Below.refl _ _⟩
  case round =>
    obtain ⟨_, k, hk, rfl, hpre, hB⟩ := hrel
    have HB := Lib.hid hB
    by_cases hlt : k < l.length
    rotate_left
    · have HM := Lib.hid (show fIx p l = -1 from fIx_none (by rw [List.take_of_length_le (by omega)] at hpre; exact hpre))
      have hni : ¬ (k : Int) < (l.length : Int) := by omega
      clear hpre
      go_wp2_with fail
      go_ret
      exact ⟨ret_int HM.out.symm, HB.out⟩
    obtain ⟨ad, x1, x2, x3, x4, rfl, hrs, hy⟩ := rule_see (HL.out wr hB) k hlt
    have k0 := hrs.at0
    have k1 := hrs.at_ 0 rfl
    have k2 := hrs.at_ 1 rfl
    have k3 := hrs.at_ 2 rfl
    have k4 := hrs.at_ 3 rfl
    have hlay : LayR wr wr.heap.size l[k] [.string (l[k]).rel, x1, x2, x3, x4] := ⟨_, hy, rfl⟩
    clear hrs hy
    have HHIT := Lib.hid (fun (h : p l[k] = true) => show fIx p l = k from fIx_some hlt hpre h)
    have HNX := Lib.hid (show p l[k] = false → (l.take (k + 1)).any p = false from fun h => by rw [any_take _ _ _ hlt, hpre, h]; rfl)
    have hcall := HR.out _ (List.getElem_mem hlt) _ wr hB hlay
    have HLT := Lib.hid (Nat.not_le_of_lt hlt)
    generalize l[k] = kd at *
    generalize p kd = pk at *
    clear hpre hlay hB
    go_wp2_with fail
    (with_reducible refine hcall.mono ?_)
    clear hcall
    rintro r w2 ⟨rfl, hb⟩
    have HB2 := Lib.hid (Below.step HB.out hb)
    clear hb
    cases pk with
    | true =>
      go_wp2_with fail
      go_ret
      exact ⟨ret_int (HHIT.out trivial).symm, HB2.out⟩
    | false =>
      have hlt9 : k < l.length := Nat.lt_of_not_le HLT.out
      go_wp2_with fail
      go_roundw
      case rel => exact ⟨trivial, k + 1, by omega, by go_num, HNX.out trivial, HB2.out⟩
      case measure => simp [intOf]; omega
set_option maxHeartbeats 3200000 in
theorem containsR_any (p : Rl → Bool) (Good : World → Prop) (rf : Nat) (rcaps : Array Value) (hen : Enters Tryd.prog rf) (hgood : ∀ w w', Good w → Below w.heap.size w w' → Good w')
    (A : Option Addr) (c : Nat) (l : List Rl) (w : World) (hL : SlOf w w.heap.size 5 (LayR w w.heap.size) A l) (hn : l.length ≤ maxLen) (hr : ∀ (k : Rl) (q : List Value) (w : World), k ∈ l → LayR w w.heap.size k q → Good w → Calls Tryd.prog rf (#[.agg q.toArray] ++ rcaps) w fun r w' => r = .returned (.bool (p k)) ∧ Below w.heap.size w w') (hG : Good w) :
    Calls Tryd.prog 58 #[.slice A l.length c, .func (.func rf) #[] rcaps] w fun e w' => e = .returned (.bool (l.any p)) ∧ Below w.heap.size w w' := by
  have hcall := indexR_any p Good rf rcaps hen hgood A c l w hL hn hr hG
  have HI := Lib.hid (fIx_any p l)
  have hle := fIx_low p l
  generalize fIx p l = r at *
  generalize l.any p = b at *
  clear hL hr
  go_enter Tryd.func58, Tryd.ntmps58
  go_wp2_with fail
  (with_reducible refine hcall.mono ?_)
  clear hcall
  rintro r w2 ⟨rfl, hb⟩
  go_wp2_with fail
  go_ret
  exact ⟨ret_bool HI.out, hb⟩
end Go.Proofs.YtkmnbdomikpakaaDoor.RuleIndex
