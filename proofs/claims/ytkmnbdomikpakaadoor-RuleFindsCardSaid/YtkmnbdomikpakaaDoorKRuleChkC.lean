/- RuleSets, RuleChkC. -/
import Derived.Test.YtkmnbdomikpakaaDoorKRuleMuch
import Derived.Carry
import Derived.Deep.Slices
import Derived.Maps.OwnSet
namespace Go.Proofs.YtkmnbdomikpakaaDoor.RuleSets
open Go.RowKit Base KeyPlain TuplePlain TupleRef RulePlain RuleMem RuleRec RuleFew RuleChk RuleAlike RuleGl TurnB RuleWalk RuleFold RuleAll RuleIndex RuleMuch
open Go.WideMaps (keyOf_string_mk)

def key (s : ByteArray) : Lit := .string s.data.toList
theorem key_is (s : ByteArray) : WideAt.IsKeyLit (key s) := trivial
theorem key_inj {s t : ByteArray} (h : key s = key t) : s = t := by
  injection h with h
  exact ByteArray.ext (Array.toList_inj.1 h)
theorem same_key (s t : ByteArray) : (key s).sameKey (key t) = decide (s = t) := by
  rw [Bool.eq_iff_iff, WideAt.sameKey_iff (key_is t), decide_eq_true_eq]
  exact ⟨key_inj, fun h => by rw [h]⟩
def setD (ns : List ByteArray) : DataW Unit := Maps.setOf (.agg []) (ns.map key)
theorem setD_snoc (ns : List ByteArray) (s : ByteArray) : setD (ns ++ [s]) = (setD ns).put (key s) (.agg []) := by
  unfold setD
  rw [List.map_append, List.map_cons, List.map_nil, Maps.setOf_snoc]
theorem keys_is (ns : List ByteArray) : ∀ x ∈ ns.map key, WideAt.IsKeyLit x := fun x hx => by
  obtain ⟨s, _, rfl⟩ := List.mem_map.1 hx
  exact key_is s
theorem setD_has (ns : List ByteArray) (s : ByteArray) : Maps.has (setD ns) (key s) = ns.any fun x => decide (x = s) := by
  unfold setD
  rw [Maps.has_setOf _ _ _ (keys_is ns), List.any_map]
  congr 1
  funext x
  exact same_key x s
/-- how many different ones -/
theorem add_len : ∀ (l : List ByteArray) (A : List ByteArray), ((l.map key).foldl Maps.addKey (A.map key)).length ≤ A.length + l.length ∧ (((l.map key).foldl Maps.addKey (A.map key)).length = A.length + l.length ↔ once A l = true)
  | [], A => by simp [once]
  | s :: l, A => by
    have e : (A.map key).any (fun y => y.sameKey (key s)) = A.any fun x => decide (x = s) := by
      rw [List.any_map]
      congr 1
      funext x
      exact same_key x s
    simp only [List.map_cons, List.foldl_cons, Maps.addKey, e, once, List.length_cons]
    cases h : A.any fun x => decide (x = s) with
    | true =>
      obtain ⟨h1, _⟩ := add_len l A
      rw [if_pos rfl]
      refine ⟨by omega, ⟨fun q => ?_, fun q => by simp at q⟩⟩
      omega
    | false =>
      obtain ⟨h1, h2⟩ := add_len l (A ++ [s])
      rw [if_neg (by simp)]
      have e2 : A.map key ++ [key s] = (A ++ [s]).map key := by simp
      rw [e2]
      rw [List.length_append, List.length_singleton] at h1 h2
      refine ⟨by omega, ?_⟩
      rw [show A.length + (l.length + 1) = A.length + 1 + l.length by omega, h2]
      simp
theorem setD_size (ns : List ByteArray) : decide ((Maps.size (setD ns) : Int) = (ns.length : Int)) = once [] ns := by
  unfold setD
  rw [Maps.size_setOf _ _ (keys_is ns)]
  have h := (add_len ns []).2
  simp only [List.map_nil, List.length_nil, Nat.zero_add] at h
  rw [Bool.eq_iff_iff, decide_eq_true_eq, ← h]
  omega
/-- a set of names in memory -/
def SetAt (w : World) (M : Nat) (ns : List ByteArray) : Prop := w.ownsMap Tryd.prog 9 (unitElem (H := Unit)) M ns.length (setD ns)
theorem SetAt.later {w w' : World} {M : Nat} {ns : List ByteArray} (h : SetAt w M ns) (hb : Below w.heap.size w w') : SetAt w' M ns :=
  World.ownsMap.kept h (row := none) ⟨hb.os, hb.tape, hb.output, hb.size, fun k hk _ => hb.block k hk⟩ (by simp)
theorem lawS : Maps.Keyed Tryd.prog 9 := Maps.string_keyed Tryd.underlying9
theorem zeroU (w : World) : (zeroValue 86).run Tryd.prog w = .ok (.agg #[]) w := by kernel_rfl
theorem key_str {s : ByteArray} (h : s.size ≤ 1000000000) : keyOf Tryd.prog 9 (.string s) = some (key s) := keyOf_string_mk Tryd.underlying9 (by unfold maxLen; omega)
/-- the captured map -/
def MapAt (G M : Nat) (w : World) : Prop := w.heap[G]? = some (.cells #[.map (some M)] 85 (0, 0))
theorem MapAt.at0 {G M : Nat} {w : World} (h : MapAt G M w) : w.cell? ⟨G, 0, none⟩ = some (.map (some M)) := by
  unfold MapAt at h
  simp [World.cell?, h]
theorem MapAt.later {G M : Nat} {w w' : World} (h : MapAt G M w) (hb : Below w.heap.size w w') : MapAt G M w' := (hb.block G (heap_lt h)).trans h
set_option maxRecDepth 100000 in
set_option maxHeartbeats 3200000 in
theorem has_any (s : ByteArray) (G M : Nat) (ns : List ByteArray) (w : World) (hs : s.size ≤ 1000000000) (hM : MapAt G M w) (hS : SetAt w M ns) :
    Calls Tryd.prog 75 #[.string s, .pointer (some ⟨G, 0, none⟩)] w fun e w' => e = .returned (.bool (ns.any fun x => decide (x = s))) ∧ Below w.heap.size w w' := by
  have hc := hM.at0
  have hkey := key_str hs
  have hown := hS
  unfold SetAt at hown
  have HH := Lib.hid (setD_has ns s)
  generalize setD ns = D at *
  generalize (ns.any fun x => decide (x = s)) = bb at *
  clear hS hM
  go_enter Tryd.func75, Tryd.ntmps75
  go_wp2_with (at_lookup; refine wpList_lookup_own_unit _ rfl _ _ 85 rfl 9 86 lawS Tryd.underlying85 (zeroU _) M _ D rfl hown (.string s) _ rfl hkey ?_)
  go_ret
  exact ⟨ret_bool HH.out, al _ _⟩
def namedX (ns : List ByteArray) (op nm fo : ByteArray) : Bool := if op = kRel then ns.any (fun x => decide (x = nm)) else if op = kFrom then ns.any (fun x => decide (x = fo)) && nameR nm else true
def namedP (ns : List ByteArray) (e : Ex) : Bool := namedX ns e.op e.nm e.fo
abbrev hasV (G : Nat) : Value := .func (.func 75) #[] #[.pointer (some ⟨G, 0, none⟩)]
structure GoodN (ns : List ByteArray) (G M H : Nat) (w : World) : Prop where
  gl : Gl w
  map : MapAt G M w
  set : SetAt w M ns
  fn : w.heap[H]? = some (.cells #[hasV G] 29 (0, 0))
theorem GoodN.later {ns : List ByteArray} {G M H : Nat} {w w' : World} (h : GoodN ns G M H w) (hb : Below w.heap.size w w') : GoodN ns G M H w' := ⟨h.gl.later hb, h.map.later hb, h.set.later hb, (hb.block H (heap_lt h.fn)).trans h.fn⟩
set_option maxRecDepth 100000 in
set_option maxHeartbeats 6400000 in
theorem named_right (ns : List ByteArray) (G M H : Nat) : Right (namedP ns) (GoodN ns G M H) 76 #[.pointer (some ⟨H, 0, none⟩)] := by
  intro e q w hL hw hG
  have hsz := wide_own hw
  obtain ⟨A, c, rfl, _, _⟩ := hL.open
  show Calls _ _ #[.agg #[.string e.op, .string e.nm, .string e.fo, .slice A e.ps.length c], .pointer (some ⟨H, 0, none⟩)] w _
  obtain ⟨w1, hw1⟩ : ∃ v, v = w.alloc (.cells #[.string e.op, .string e.nm, .string e.fo, .slice A e.ps.length c] 34) := ⟨_, rfl⟩
  obtain ⟨b, hbe⟩ : ∃ v, v = w.heap.size := ⟨_, rfl⟩
  have hb1 : Below w.heap.size w w1 := by rw [hw1]; exact al _ _
  have a1 : w1.heap[b]? = some (.cells #[.string e.op, .string e.nm, .string e.fo, .slice A e.ps.length c] 34 (0, 0)) := by rw [hw1, hbe]; exact heap_alloc_new w _
  have HW := Lib.hid hw1
  have HBE := Lib.hid hbe
  clear hw1 hbe
  have hg1 := hG.later hb1
  have hf1 : w1.cell? ⟨H, 0, none⟩ = some (hasV G) := by simp [World.cell?, hg1.fn]
  obtain ⟨d0, d1, d2, d3⟩ := four_at a1
  have HB := Lib.hid hb1
  have HG := Lib.hid hg1
  have HAT := Lib.hid (fun (w' : World) (hw' : Below w1.heap.size w1 w') => four_at ((hw'.block b (heap_lt a1)).trans a1))
  have hcN := has_any e.nm G M ns w1 hsz.2.1 hg1.map hg1.set
  have hcF := has_any e.fo G M ns w1 hsz.2.2 hg1.map hg1.set
  have HCI := Lib.hid (fun (w' : World) (hw' : Below w1.heap.size w1 w') => isName_any e.nm w' (hg1.gl.later hw') hsz.2.1)
  have hq1 := tl_rel e.op
  have hq2 := tl_from e.op
  have HD := Lib.hid (show namedP ns e = if e.op = kRel then ns.any (fun x => decide (x = e.nm)) else if e.op = kFrom then ns.any (fun x => decide (x = e.fo)) && nameR e.nm else true from rfl)
  generalize ns.any (fun x => decide (x = e.nm)) = bn at *
  generalize ns.any (fun x => decide (x = e.fo)) = bf at *
  generalize nameR e.nm = bi at *
  generalize hpe : namedP ns e = pe at *
  clear hb1 a1 hg1 hL hG hw hsz hpe
  by_cases h1 : e.op = kRel
  · have HV := Lib.hid (show pe = bn from by rw [HD.out, if_pos h1])
    have hr1 : (e.op.toList == [114, 101, 108]) = true := by rw [hq1]; exact decide_eq_true h1
    clear hq1 hq2 h1 hcF
    go_enter Tryd.func76, Tryd.ntmps76
    go_upto_region 1 with fail
    try rw [← HW.out]
    try rw [← HBE.out]
    clear HW
    go_wp2_with fail
    (with_reducible refine hcN.mono ?_)
    clear hcN
    rintro r w2 ⟨rfl, hb⟩
    go_wp2_with fail
    go_ret
    exact ⟨ret_bool HV.out.symm, Below.step HB.out hb⟩
  have hr1 : (e.op.toList == [114, 101, 108]) = false := by rw [hq1]; exact decide_eq_false h1
  by_cases h2 : e.op = kFrom
  rotate_left
  · have HV := Lib.hid (show pe = true from by rw [HD.out, if_neg h1, if_neg h2])
    have hr2 : (e.op.toList == [102, 114, 111, 109]) = false := by rw [hq2]; exact decide_eq_false h2
    clear hq1 hq2 h1 h2 hcF hcN
    go_enter Tryd.func76, Tryd.ntmps76
    go_upto_region 1 with fail
    try rw [← HW.out]
    try rw [← HBE.out]
    clear HW
    go_wp2_with fail
    go_ret
    exact ⟨ret_bool HV.out.symm, HB.out⟩
  have HV := Lib.hid (show pe = (bf && bi) from by rw [HD.out, if_neg h1, if_pos h2])
  have hr2 : (e.op.toList == [102, 114, 111, 109]) = true := by rw [hq2]; exact decide_eq_true h2
  clear hq1 hq2 h1 h2 hcN
  go_enter Tryd.func76, Tryd.ntmps76
  go_upto_region 1 with fail
  try rw [← HW.out]
  try rw [← HBE.out]
  clear HW
  go_wp2_with fail
  (with_reducible refine hcF.mono ?_)
  clear hcF d0 d1 d2 d3
  rintro r w2 ⟨rfl, hb⟩
  have HB2 := Lib.hid hb
  clear hb
  cases bf with
  | false =>
    go_wp2_with fail
    go_ret
    exact ⟨ret_bool (by rw [HV.out]; rfl), Below.step HB.out HB2.out⟩
  | true =>
    obtain ⟨d0, d1, d2, d3⟩ := HAT.out w2 HB2.out
    have hcall := HCI.out w2 HB2.out
    go_wp2_with fail
    (with_reducible refine hcall.mono ?_)
    clear hcall
    rintro r w3 ⟨rfl, hb⟩
    go_wp2_with fail
    go_ret
    exact ⟨ret_bool (by rw [HV.out]; rfl), Below.step HB.out (Below.step HB2.out hb)⟩
def relsOf (k : Kd) : List ByteArray := k.rules.map (·.rel)
/-- what hasRelations says -/
def relsOk (k : Kd) : Bool := k.rules.all (fun r => nameR r.rel) && (once [] (relsOf k) && allR (namedP (relsOf k)) k)
/-- a kind's names are short enough to be looked at -/
def KOk (k : Kd) : Prop := k.name.size ≤ 1000000000 ∧ k.rules.length ≤ 1000000000 ∧ ∀ r, r ∈ k.rules → r.rel.size ≤ 1000000000 ∧ r.e.deep ≤ 1000000000 ∧ wide r.e = true
set_option maxRecDepth 100000 in
set_option maxHeartbeats 12800000 in
theorem rels_any (k : Kd) (q : List Value) (w : World) (hL : LayK w w.heap.size k q) (hk : KOk k) (hG : Gl w) :
    Calls Tryd.prog 63 #[.agg q.toArray] w fun e w' => e = .returned (.bool (relsOk k)) ∧ Below w.heap.size w w' := by
  obtain ⟨K, c, rfl, hs, hl⟩ := hL
  obtain ⟨hk1, hk2, hk3⟩ := hk
  obtain ⟨w1, hw1⟩ : ∃ v, v = w.alloc (.cells #[.string k.name, .slice K k.rules.length c] 42) := ⟨_, rfl⟩
  obtain ⟨b, hbe⟩ : ∃ v, v = w.heap.size := ⟨_, rfl⟩
  have hb1 : Below w.heap.size w w1 := by rw [hw1]; exact al _ _
  have a1 : w1.heap[b]? = some (.cells #[.string k.name, .slice K k.rules.length c] 42 (0, 0)) := by rw [hw1, hbe]; exact heap_alloc_new w _
  have HW := Lib.hid hw1
  have HBE := Lib.hid hbe
  clear hw1 hbe
  obtain ⟨M, hMe⟩ : ∃ v, v = w1.heap.size := ⟨_, rfl⟩
  obtain ⟨w2, hw2⟩ : ∃ v, v = (w1.alloc (.map #[] 0)).alloc (.cells #[.map (some M)] 85) := ⟨_, rfl⟩
  have hbm : Below w1.heap.size w1 w2 := by rw [hw2]; exact ((Below.refl _ _).alloc (Nat.le_refl _) _).alloc (by simp) _
  have hm2 : MapAt (M + 1) M w2 := by
    rw [hw2, hMe]
    have := heap_alloc_new (w1.alloc (.map #[] 0)) (.cells #[.map (some w1.heap.size)] 85)
    rwa [World.size_alloc] at this
  have hs2 : SetAt w2 M [] := by
    rw [hw2, hMe]
    exact (World.ownsMap_made w1 Tryd.prog 9 (unitElem (H := Unit))).alloc _
  have HMb := Lib.hid (show w1.heap.size ≤ M ∧ M < M + 1 from ⟨by rw [hMe]; exact Nat.le_refl _, by omega⟩)
  have HB1 := Lib.hid hb1
  have HB2 := Lib.hid hbm
  have HRS := Lib.hid (fun (w' : World) (hw' : Below w1.heap.size w1 w') => hs.imp (see_later (Below.step hb1 hw')) fun _ _ _ h => h.imp (see_later (Below.step hb1 hw')))
  have HAK := Lib.hid (fun (w' : World) (hw' : Below w1.heap.size w1 w') => (hw'.block b (heap_lt a1)).trans a1)
  have HGL := Lib.hid (fun (w' : World) (hw' : Below w1.heap.size w1 w') => hG.later (Below.step hb1 hw'))
  have HK3 := Lib.hid hk3
  have HR := Lib.hid (show relsOk k = (k.rules.all (fun r => nameR r.rel) && (once [] (relsOf k) && allR (namedP (relsOf k)) k)) from rfl)
  have HM2 := Lib.hid hm2
  have HS2 := Lib.hid hs2
  have HMW := Lib.hid hw2
  have HME := Lib.hid hMe
  have hmm := @run_makeMap Tryd.prog
  have hmf : ∀ (fn : Fn) (first cap : Array Value) (w : World), (Instr.makeFunc fn first cap).run Tryd.prog w = .ok (.func fn first cap) w := fun _ _ _ _ => rfl
  clear hb1 a1 hs hG hbm hm2 hs2 hw2 hMe hk1 hk3
  go_enter Tryd.func63, Tryd.ntmps63
  go_upto_region 1 with fail
  try rw [← HW.out]
  try rw [← HBE.out]
  clear HW
  go_upto_region 2 with fail
  try rw [← HME.out]
  try rw [← HMW.out]
  clear HMW
  obtain ⟨d0, d1⟩ := two_at (HAK.out w2 HB2.out)
  go_wp2_with fail
  clear d0 d1
  go_loopw [5, 11] (fun z i wr => z = z ∧ ∃ m : Nat, m ≤ k.rules.length ∧ i = .int .i64 m ∧ (k.rules.take m).all (fun r => nameR r.rel) = true ∧ SetAt wr M ((k.rules.take m).map (·.rel)) ∧ MapAt (M + 1) M wr ∧ Below w1.heap.size w1 wr) (fun _ i _ => k.rules.length - (intOf i).toNat)
  case atStart => exact ⟨rfl, 0, by omega, rfl, rfl, HS2.out, HM2.out, HB2.out⟩
  case round =>
    obtain ⟨_, m, hm, rfl, hpre, hset, hmap, hB⟩ := hrel
    have HBV := Lib.hid hB
    by_cases hlm : m < k.rules.length
    · obtain ⟨bd, x1, x2, x3, x4, rfl, hrs, hy⟩ := rule_see (HRS.out wr hB) m hlm
      have hrk := HK3.out _ (List.getElem_mem hlm)
      have HCUT := Lib.hid (fun (h : nameR (k.rules[m]).rel = false) => show relsOk k = false from by
        rw [HR.out, List.all_eq_false.2 ⟨_, List.getElem_mem hlm, by rw [h]; simp⟩, Bool.false_and])
      have HNX := Lib.hid (show nameR (k.rules[m]).rel = true → (k.rules.take (m + 1)).all (fun r => nameR r.rel) = true from fun h => by rw [all_take' _ _ _ hlm, hpre, h]; rfl)
      have HSN := Lib.hid (show (k.rules.take (m + 1)).map (·.rel) = (k.rules.take m).map (·.rel) ++ [(k.rules[m]).rel] from by rw [List.take_succ_eq_append_getElem hlm, List.map_append]; rfl)
      have hsl : ((k.rules.take m).map (·.rel)).length = m := by rw [List.length_map, List.length_take]; omega
      generalize k.rules[m] = rl at *
      generalize (k.rules.take m).map (·.rel) = ns at *
      have HLM := Lib.hid (Nat.not_le_of_lt hlm)
      obtain ⟨rel, e⟩ := rl
      simp only at hrs hy hrk
      obtain ⟨Z, z, hxe, _⟩ := hy.open
      simp only [List.cons.injEq, and_true] at hxe
      obtain ⟨rfl, rfl, rfl, rfl⟩ := hxe
      have r0 := hrs.at0
      have r1 := hrs.at_ 0 rfl
      have r2 := hrs.at_ 1 rfl
      have r3 := hrs.at_ 2 rfl
      have r4 := hrs.at_ 3 rfl
      obtain ⟨w4, hw14⟩ : ∃ v, v = wr.alloc (.cells #[.string rel, .string e.op, .string e.nm, .string e.fo, .slice Z e.ps.length z] 47) := ⟨_, rfl⟩
      obtain ⟨b4, hbe4⟩ : ∃ v, v = wr.heap.size := ⟨_, rfl⟩
      have hb14 : Below wr.heap.size wr w4 := by rw [hw14]; exact al _ _
      have a14 : w4.heap[b4]? = some (.cells #[.string rel, .string e.op, .string e.nm, .string e.fo, .slice Z e.ps.length z] 47 (0, 0)) := by rw [hw14, hbe4]; exact heap_alloc_new wr _
      have HW4 := Lib.hid hw14
      have HBE4 := Lib.hid hbe4
      clear hw14 hbe4
      have HB4 := Lib.hid (Below.step hB hb14)
      have HS4 := Lib.hid (hset.later hb14)
      have HM4 := Lib.hid (hmap.later hb14)
      have hcall := isName_any rel w4 (HGL.out w4 HB4.out) hrk.1
      have HKEY := Lib.hid (key_str hrk.1)
      have HSL := Lib.hid hsl
      have HA4 := Lib.hid a14
      generalize hnr : nameR rel = nr at *
      have HNR := Lib.hid hnr
      obtain ⟨q0, q1, q2, q3, q4⟩ := five_at a14
      clear hrs hy hb14 hB hpre a14 hset hmap hrk hnr hsl
      go_upto_region 5 with fail
      try rw [← HW4.out]
      try rw [← HBE4.out]
      clear HW4
      go_wp2_with fail
      (with_reducible refine hcall.mono ?_)
      clear hcall q0 q1 q2 q3 q4 r0 r1 r2 r3 r4
      rintro e' w5 ⟨rfl, bb⟩
      have HB5 := Lib.hid (Below.step HB4.out bb)
      cases nr with
      | false =>
        go_wp2_with fail
        go_ret
        exact ⟨ret_bool (HCUT.out trivial).symm, Below.step HB1.out HB5.out⟩
      | true =>
        have hlm9 : m < k.rules.length := Nat.lt_of_not_le HLM.out
        have hown := HS4.out.later bb
        have hmap := HM4.out.later bb
        have hc := hmap.at0
        obtain ⟨q0, q1, q2, q3, q4⟩ := five_at ((bb.block b4 (heap_lt HA4.out)).trans HA4.out)
        have hkey := HKEY.out
        unfold SetAt at hown
        rw [HSL.out] at hown
        have HOWN := Lib.hid hown
        clear bb
        go_wp2_with (at_mapUpdate; refine wpList_mapUpdate_own _ rfl _ _ _ 85 rfl 9 86 lawS Tryd.underlying85 _ M m _ rfl hown (by unfold maxLen; omega) _ _ _ rfl rfl hkey (.agg []) [] unitElem_mk ?_; intro w6 hown1 hgrow1)
        have HS6 := Lib.hid (show SetAt w6 M ((k.rules.take (m + 1)).map (·.rel)) from by
          rw [HSN.out]
          unfold SetAt
          rw [setD_snoc, List.length_append, HSL.out]
          exact hown1)
        have HM6 := Lib.hid (show MapAt (M + 1) M w6 from (hgrow1.block _ (heap_lt hmap) (by simp)).trans hmap)
        have HB6 := Lib.hid (HB5.out.grown hgrow1 HB5.out.size fun k e => by injection e with e; rw [← e]; exact HMb.out.1)
        clear hown1 hgrow1 hown hmap hc q0 q1 q2 q3 q4 hkey
        go_wp2_with fail
        go_roundw
        case rel => exact ⟨trivial, m + 1, by omega, by go_num, HNX.out trivial, HS6.out, HM6.out, HB6.out⟩
        case measure => simp [intOf]; omega
    · obtain rfl : m = k.rules.length := by omega
      have hn : ¬ (k.rules.length : Int) < (k.rules.length : Int) := by omega
      rw [List.take_length] at hpre hset
      have HR2 := Lib.hid (show relsOk k = (once [] (relsOf k) && allR (namedP (relsOf k)) k) from by rw [HR.out, hpre, Bool.true_and])
      have hset' : SetAt wr M (relsOf k) := hset
      obtain ⟨w7, hw17⟩ : ∃ v, v = wr.alloc (.cells #[hasV (M + 1)] 29) := ⟨_, rfl⟩
      obtain ⟨b7, hbe7⟩ : ∃ v, v = wr.heap.size := ⟨_, rfl⟩
      have hb17 : Below wr.heap.size wr w7 := by rw [hw17]; exact al _ _
      have a17 : w7.heap[b7]? = some (.cells #[hasV (M + 1)] 29 (0, 0)) := by rw [hw17, hbe7]; exact heap_alloc_new wr _
      have HW7 := Lib.hid hw17
      have HBE7 := Lib.hid hbe7
      clear hw17 hbe7
      have hset7 := hset'.later hb17
      have hmap7 := hmap.later hb17
      have HB7 := Lib.hid (Below.step hB hb17)
      obtain ⟨d0, d1⟩ := two_at (HAK.out w7 HB7.out)
      have hc := hmap7.at0
      have HAK7 := Lib.hid (HAK.out w7 HB7.out)
      have HGN := Lib.hid (show GoodN (relsOf k) (M + 1) M b7 w7 from ⟨HGL.out w7 HB7.out, hmap7, hset7, a17⟩)
      have hown := hset7
      unfold SetAt at hown
      have hsz := setD_size (relsOf k)
      have hlen : (relsOf k).length = k.rules.length := List.length_map _
      rw [hlen] at hsz hown
      have hall := all_any (namedP (relsOf k)) (GoodN (relsOf k) (M + 1) M b7) 76 #[.pointer (some ⟨b7, 0, none⟩)] (enters_of Tryd.func76 (by kernel_rfl) rfl) (fun _ _ h hb => h.later hb) (named_right (relsOf k) (M + 1) M b7)
        (some ⟨w7.heap.size, 0, none⟩) 1 [k] (w7.alloc (.cells #[.string k.name, .slice K k.rules.length c] 42))
      have hb8 := al w7 (.cells #[.string k.name, .slice K k.rules.length c] 42)
      have a8 := heap_alloc_new w7 (.cells #[.string k.name, .slice K k.rules.length c] 42)
      have hlk : LayL (w7.alloc (.cells #[.string k.name, .slice K k.rules.length c] 42)) (w7.alloc (.cells #[.string k.name, .slice K k.rules.length c] 42)).heap.size (some ⟨w7.heap.size, 0, none⟩) [k] := by
        refine ⟨fun _ => [.string k.name, .slice K k.rules.length c], fun i hi => ?_⟩
        obtain rfl : i = 0 := by simpa using hi
        refine ⟨⟨_, rfl, ?_, fun j v hv => ?_⟩, K, c, rfl, HRS.out _ (Below.step HB7.out hb8), hl⟩
        · rw [blk_add]; exact heap_lt a8
        · rw [Go.Deep.add_add, Nat.zero_mul, Nat.zero_add, add_zero_block]
          simp only [World.cell?, a8]
          simpa using hv
      have hall := hall hlk (by simp [maxLen]) (fun k' hk' r hr => by
        obtain rfl : k' = k := by simpa using hk'
        exact (HK3.out r hr).2) (HGN.out.later hb8)
      rw [show allK (namedP (relsOf k)) [k] = allR (namedP (relsOf k)) k from by simp [allK]] at hall
      rw [show ([k] : List Kd).length = 1 from rfl] at hall
      generalize allR (namedP (relsOf k)) k = ar at *
      generalize once [] (relsOf k) = oc at *
      have hsq : ((Maps.size (setD (relsOf k)) : Int) == (k.rules.length : Int)) = oc := hsz
      generalize setD (relsOf k) = D at *
      have HB8 := Lib.hid (Below.step HB7.out hb8)
      clear hb8 a8 hlk hset hset7 hset' hmap hmap7 hB hb17 a17 hpre hsz hlen
      have hst : (store ⟨wr.heap.size, 0, none⟩ (Value.func (.func 75) #[] #[.pointer (some ⟨M + 1, 0, none⟩)])).run Tryd.prog (wr.alloc (.cells #[.nilFunc] 29)) = .ok () (wr.alloc (.cells #[.func (.func 75) #[] #[.pointer (some ⟨M + 1, 0, none⟩)]] 29)) := by
        have h0 := heap_alloc_new wr (.cells #[.nilFunc] 29)
        have c0 : (wr.alloc (.cells #[.nilFunc] 29)).cell? ⟨wr.heap.size, 0, none⟩ = some .nilFunc := by simp only [World.cell?, h0]; rfl
        have f0 : (wr.alloc (.cells #[.nilFunc] 29)).frozen? ⟨wr.heap.size, 0, none⟩ = false := by simp only [World.frozen?, h0]; rfl
        rw [run_store _ _ _ _ _ rfl, c0, World.setCell_alloc_new]
        simp only [f0]
        rfl
      go_upto_region 10 with fail
      try rw [← HW7.out]
      try rw [← HBE7.out]
      clear HW7
      cases oc with
      | false =>
        go_wp2_with (at_len; refine wpList_len_own _ rfl _ 85 rfl 9 86 Tryd.underlying85 _ M _ D rfl hown ?_)
        go_ret
        exact ⟨ret_bool (by rw [HR2.out]; simp), Below.step HB1.out HB7.out⟩
      | true =>
        go_wp2_with (at_len; refine wpList_len_own _ rfl _ 85 rfl 9 86 Tryd.underlying85 _ M _ D rfl hown ?_)
        (with_reducible refine hall.mono ?_)
        rintro e' w8 ⟨rfl, hb⟩
        go_wp2_with fail
        go_ret
        exact ⟨ret_bool (by rw [HR2.out]; rfl), Below.step HB1.out (Below.step HB8.out hb)⟩
def kOk (k : Kd) : Bool := nameR k.name && relsOk k
/-- what isNamed says -/
def namedOk (l : List Kd) : Bool := l.all kOk && once [] (l.map (·.name))
set_option maxRecDepth 100000 in
set_option maxHeartbeats 12800000 in
theorem isNamed_any (A : Option Addr) (c : Nat) (l : List Kd) (w : World) (hL : LayL w w.heap.size A l) (hn : l.length ≤ 1000000000) (hk : ∀ k, k ∈ l → KOk k) (hG : Gl w) :
    Calls Tryd.prog 45 #[.slice A l.length c] w fun e w' => e = .returned (.bool (namedOk l)) ∧ Below w.heap.size w w' := by
  obtain ⟨w2, hw2⟩ : ∃ v, v = w.alloc (.map #[] 0) := ⟨_, rfl⟩
  obtain ⟨M, hMe⟩ : ∃ v, v = w.heap.size := ⟨_, rfl⟩
  have hb2 : Below w.heap.size w w2 := by rw [hw2]; exact al _ _
  have hs2 : SetAt w2 M [] := by rw [hw2, hMe]; exact World.ownsMap_made w Tryd.prog 9 (unitElem (H := Unit))
  have HL := Lib.hid (fun (w' : World) (hw' : Below w.heap.size w w') => hL.later hw')
  have HGL := Lib.hid (fun (w' : World) (hw' : Below w.heap.size w w') => hG.later hw')
  have HK3 := Lib.hid hk
  have HR := Lib.hid (show namedOk l = (l.all kOk && once [] (l.map (·.name))) from rfl)
  have HS2 := Lib.hid hs2
  have HB2 := Lib.hid hb2
  have HMW := Lib.hid hw2
  have HME := Lib.hid hMe
  have hmm := @run_makeMap Tryd.prog
  clear hs2 hb2 hw2 hMe hL hG hk
  go_enter Tryd.func45, Tryd.ntmps45
  go_upto_region 2 with fail
  try rw [← HMW.out]
  try rw [← HME.out]
  clear HMW
  go_wp2_with fail
  go_loopw [5, 9] (fun z i wr => z = z ∧ ∃ m : Nat, m ≤ l.length ∧ i = .int .i64 m ∧ (l.take m).all kOk = true ∧ SetAt wr M ((l.take m).map (·.name)) ∧ Below w.heap.size w wr) (fun _ i _ => l.length - (intOf i).toNat)
  case atStart => exact ⟨rfl, 0, by omega, rfl, rfl, HS2.out, HB2.out⟩
  case round =>
    obtain ⟨_, m, hm, rfl, hpre, hset, hB⟩ := hrel
    have HBV := Lib.hid hB
    by_cases hlm : m < l.length
    · obtain ⟨ad, K, c', rfl, hks, hrs, hml⟩ := kind_see (HL.out wr hB) m hlm
      have hkk := HK3.out _ (List.getElem_mem hlm)
      have HCUT := Lib.hid (fun (h : kOk l[m] = false) => show namedOk l = false from by
        rw [HR.out, List.all_eq_false.2 ⟨_, List.getElem_mem hlm, by rw [h]; simp⟩, Bool.false_and])
      have HNX := Lib.hid (show kOk l[m] = true → (l.take (m + 1)).all kOk = true from fun h => by rw [all_take' _ _ _ hlm, hpre, h]; rfl)
      have HSN := Lib.hid (show (l.take (m + 1)).map (·.name) = (l.take m).map (·.name) ++ [(l[m]).name] from by rw [List.take_succ_eq_append_getElem hlm, List.map_append]; rfl)
      have hsl : ((l.take m).map (·.name)).length = m := by rw [List.length_map, List.length_take]; omega
      have HKD := Lib.hid (show kOk l[m] = (nameR (l[m]).name && relsOk l[m]) from rfl)
      have HLK := Lib.hid (fun (w' : World) (hw' : Below wr.heap.size wr w') => show LayK w' w'.heap.size l[m] [.string (l[m]).name, .slice K (l[m]).rules.length c'] from ⟨K, c', rfl, hrs.imp (see_later hw') fun _ _ _ h => h.imp (see_later hw'), hml⟩)
      generalize l[m] = kd at *
      generalize (l.take m).map (·.name) = ns at *
      have HLM := Lib.hid (Nat.not_le_of_lt hlm)
      have k0 := hks.at0
      have k1 := hks.at_ 0 rfl
      obtain ⟨w4, hw14⟩ : ∃ v, v = wr.alloc (.cells #[.string kd.name, .slice K kd.rules.length c'] 42) := ⟨_, rfl⟩
      obtain ⟨b4, hbe4⟩ : ∃ v, v = wr.heap.size := ⟨_, rfl⟩
      have hb14 : Below wr.heap.size wr w4 := by rw [hw14]; exact al _ _
      have a14 : w4.heap[b4]? = some (.cells #[.string kd.name, .slice K kd.rules.length c'] 42 (0, 0)) := by rw [hw14, hbe4]; exact heap_alloc_new wr _
      have HW4 := Lib.hid hw14
      have HBE4 := Lib.hid hbe4
      clear hw14 hbe4
      have HB4 := Lib.hid (Below.step hB hb14)
      have HS4 := Lib.hid (hset.later hb14)
      have hcall := isName_any kd.name w4 (HGL.out w4 HB4.out) hkk.1
      have HKEY := Lib.hid (key_str hkk.1)
      have HKK := Lib.hid hkk
      have HSL := Lib.hid hsl
      have HA4 := Lib.hid a14
      have HBL := Lib.hid hb14
      generalize hnr : nameR kd.name = nr at *
      obtain ⟨q0, q1⟩ := two_at a14
      clear hrs hb14 hB hpre a14 hset hkk hnr hsl hks
      go_upto_region 5 with fail
      try rw [← HW4.out]
      try rw [← HBE4.out]
      clear HW4
      go_wp2_with fail
      (with_reducible refine hcall.mono ?_)
      clear hcall q0 q1 k0 k1
      rintro e' w5 ⟨rfl, bb⟩
      have HB5 := Lib.hid (Below.step HB4.out bb)
      have HBB := Lib.hid bb
      clear bb
      cases nr with
      | false =>
        go_wp2_with fail
        go_ret
        exact ⟨ret_bool (HCUT.out (by rw [HKD.out]; rfl)).symm, HB5.out⟩
      | true =>
        obtain ⟨q0, q1⟩ := two_at ((HBB.out.block b4 (heap_lt HA4.out)).trans HA4.out)
        have hcall := rels_any kd _ w5 (HLK.out w5 (Below.step HBL.out HBB.out)) HKK.out (HGL.out w5 HB5.out)
        generalize hro : relsOk kd = ro at *
        have HRO := Lib.hid hro
        clear hro
        go_wp2_with fail
        (with_reducible refine hcall.mono ?_)
        clear hcall q0 q1
        rintro e' w6 ⟨rfl, b6⟩
        have HB6 := Lib.hid (Below.step HB5.out b6)
        cases ro with
        | false =>
          go_wp2_with fail
          go_ret
          exact ⟨ret_bool (HCUT.out (by rw [HKD.out]; rfl)).symm, HB6.out⟩
        | true =>
          have hlm9 : m < l.length := Nat.lt_of_not_le HLM.out
          have hown := (HS4.out.later HBB.out).later b6
          obtain ⟨q0, q1⟩ := two_at ((b6.block b4 (heap_lt ((HBB.out.block b4 (heap_lt HA4.out)).trans HA4.out))).trans ((HBB.out.block b4 (heap_lt HA4.out)).trans HA4.out))
          have hkey := HKEY.out
          unfold SetAt at hown
          rw [HSL.out] at hown
          clear b6
          go_wp2_with (at_mapUpdate; refine wpList_mapUpdate_own _ rfl _ _ _ 85 rfl 9 86 lawS Tryd.underlying85 _ M m _ rfl hown (by unfold maxLen; omega) _ _ _ rfl rfl hkey (.agg []) [] unitElem_mk ?_; intro w7 hown1 hgrow1)
          have HS7 := Lib.hid (show SetAt w7 M ((l.take (m + 1)).map (·.name)) from by
            rw [HSN.out]
            unfold SetAt
            rw [setD_snoc, List.length_append, HSL.out]
            exact hown1)
          have HB7 := Lib.hid (HB6.out.grown hgrow1 HB6.out.size fun k e => by injection e with e; rw [← e, HME.out]; exact Nat.le_refl _)
          clear hown1 hgrow1 hown q0 q1 hkey
          go_wp2_with fail
          go_roundw
          case rel => exact ⟨trivial, m + 1, by omega, by go_num, HNX.out (by rw [HKD.out]; rfl), HS7.out, HB7.out⟩
          case measure => simp [intOf]; omega
    · obtain rfl : m = l.length := by omega
      have hn : ¬ (l.length : Int) < (l.length : Int) := by omega
      rw [List.take_length] at hpre hset
      have HR2 := Lib.hid (show namedOk l = once [] (l.map (·.name)) from by rw [HR.out, hpre, Bool.true_and])
      have hown := hset
      unfold SetAt at hown
      have hsz := setD_size (l.map (·.name))
      have hlen : (l.map (·.name)).length = l.length := List.length_map _
      rw [hlen] at hsz hown
      generalize once [] (l.map (·.name)) = oc at *
      have hsq : ((Maps.size (setD (l.map (·.name))) : Int) == (l.length : Int)) = oc := hsz
      generalize setD (l.map (·.name)) = D at *
      clear hset hB hpre hsz hlen
      cases oc with
      | false =>
        go_wp2_with (at_len; refine wpList_len_own _ rfl _ 85 rfl 9 86 Tryd.underlying85 _ M _ D rfl hown ?_)
        go_ret
        exact ⟨ret_bool (by rw [HR2.out]), HBV.out⟩
      | true =>
        go_wp2_with (at_len; refine wpList_len_own _ rfl _ 85 rfl 9 86 Tryd.underlying85 _ M _ D rfl hown ?_)
        go_ret
        exact ⟨ret_bool (by rw [HR2.out]), HBV.out⟩
end Go.Proofs.YtkmnbdomikpakaaDoor.RuleSets
namespace Go.Proofs.YtkmnbdomikpakaaDoor.RuleChkC
open Go.RowKit Base KeyPlain TuplePlain TupleRef RulePlain RuleMem RuleRec RuleFew RuleChk RuleAlike RuleFacts RuleGl TurnB RuleWalk RuleFold RuleAll RuleIndex RuleMuch RuleSets

/-! names, as the document has them -/
theorem named_own (k : Kd) (op nm fo : ByteArray) : namedX (relsOf k) op nm fo = namedS k op nm fo := by
  have e : ∀ s, (relsOf k).any (fun x => decide (x = s)) = k.has s := fun s => by
    unfold relsOf Kd.has
    rw [List.any_map]
    rfl
  unfold namedX namedS
  rw [e, e]
  by_cases h1 : op = kRel
  · subst h1
    rw [if_pos rfl, if_neg (by decide), if_pos rfl]
  · rw [if_neg h1]
    by_cases h2 : op = kFrom
    · rw [if_pos h2, if_pos h2]
    · rw [if_neg h2, if_neg h2, if_neg h1]
mutual
theorem named_all (k : Kd) : ∀ e : Ex, allE (namedP (relsOf k)) e = e.named k
  | .mk op nm fo ps => by
    rw [allE, Ex.named, named_allL k ps]
    congr 1
    exact named_own k op nm fo
theorem named_allL (k : Kd) : ∀ l : List Ex, allL (namedP (relsOf k)) l = namedL k l
  | [] => by rw [allL, namedL]
  | e :: l => by rw [allL, namedL, named_all k e, named_allL k l]
end
theorem all_and {α : Type} (l : List α) (p q : α → Bool) : l.all (fun x => p x && q x) = (l.all p && l.all q) := by
  induction l with
  | nil => rfl
  | cons x l ih =>
    simp only [List.all_cons, ih]
    cases p x <;> cases q x <;> cases l.all p <;> cases l.all q <;> rfl
theorem named_is (l : List Kd) : namedOk l = rightK l := by
  unfold namedOk rightK
  rw [Bool.and_comm]
  congr 2
  funext k
  unfold kOk relsOk
  congr 1
  rw [all_and]
  have e : allR (namedP (relsOf k)) k = k.rules.all fun r => r.e.named k := by
    unfold allR
    congr 1
    funext r
    exact named_all k r.e
  rw [e]
  show _ = (once [] (relsOf k) && _)
  cases k.rules.all (fun r => nameR r.rel) <;> cases once [] (relsOf k) <;> cases k.rules.all (fun r => r.e.named k) <;> rfl
/-- the code's Check: an expression without what its Op has, has no form -/
def checkC (l : List Kd) : Int := if deepK l then 122 else if !formKC l then 120 else if !rightK l then 121 else 0
set_option maxHeartbeats 6400000 in
theorem cCheck_any (A : Option Addr) (c : Nat) (l : List Kd) (w : World) (hL : LayL w w.heap.size A l) (hn : l.length ≤ 1000000000) (hk : ∀ k, k ∈ l → KOk k) (hG : Gl w) :
    Calls Tryd.prog 21 #[.slice A l.length c] w fun e w' => e = .returned (.int .i64 (checkC l)) ∧ Below w.heap.size w w' := by
  have hd : DeepOk l := fun k h r hr => ((hk k h).2.2 r hr).2
  have hl : l.length ≤ maxLen := by unfold maxLen; omega
  have h1 := much_any A c l w hL hl hd
  have H2 := Lib.hid (fun (w' : World) (hw' : Below w.heap.size w w') => allForm_any A c l w' (hL.later hw') hl hd (hG.later hw'))
  have H3 := Lib.hid (fun (w' : World) (hw' : Below w.heap.size w w') => isNamed_any A c l w' (hL.later hw') hn hk (hG.later hw'))
  have HC := Lib.hid (show checkC l = if deepK l then 122 else if !formKC l then 120 else if !namedOk l then 121 else 0 from by rw [named_is]; rfl)
  generalize checkC l = ck at *
  generalize deepK l = bd at *
  generalize formKC l = bf at *
  generalize namedOk l = bn at *
  clear hL hk hd hG
  go_enter Tryd.func21, Tryd.ntmps21
  go_wp2_with fail
  (with_reducible refine h1.mono ?_)
  clear h1
  rintro e w1 ⟨rfl, hb⟩
  have HB1 := Lib.hid hb
  clear hb
  cases bd with
  | true =>
    go_wp2_with fail
    go_ret
    exact ⟨ret_int (by rw [HC.out]; rfl), HB1.out⟩
  | false =>
    have h2 := H2.out w1 HB1.out
    go_wp2_with fail
    (with_reducible refine h2.mono ?_)
    clear h2
    rintro e w2 ⟨rfl, hb⟩
    have HB2 := Lib.hid (Below.step HB1.out hb)
    clear hb
    cases bf with
    | false =>
      go_wp2_with fail
      go_ret
      exact ⟨ret_int (by rw [HC.out]; rfl), HB2.out⟩
    | true =>
      have h3 := H3.out w2 HB2.out
      go_wp2_with fail
      (with_reducible refine h3.mono ?_)
      clear h3
      rintro e w3 ⟨rfl, hb⟩
      have HB3 := Lib.hid (Below.step HB2.out hb)
      clear hb
      cases bn with
      | false =>
        go_wp2_with fail
        go_ret
        exact ⟨ret_int (by rw [HC.out]; rfl), HB3.out⟩
      | true =>
        go_wp2_with fail
        go_ret
        exact ⟨ret_int (by rw [HC.out]; rfl), HB3.out⟩
/-! the code's form, and the document's -/
def em (s : ByteArray) : Bool := decide (s.size = 0)
theorem em_is (s : ByteArray) : s.toList.isEmpty = em s := by
  rw [Lib.toList_data]
  unfold em
  rw [Bool.eq_iff_iff, List.isEmpty_iff, decide_eq_true_eq, ← List.length_eq_zero_iff]
  exact Iff.rfl
theorem formC_eq (op nm fo : ByteArray) (n : Nat) : formC op nm fo n =
    if op = kThis then em nm && (em fo && decide (n = 0))
    else if op = kRel then !em nm && (em fo && decide (n = 0))
    else if op = kFrom then !em nm && (!em fo && decide (n = 0))
    else if op = kOr ∨ op = kAnd then em nm && (em fo && (decide (1 < n) && decide ((n : Int) ≤ anyMo)))
    else if op = kBut then em nm && (em fo && decide (n = 2))
    else false := by
  have z0 : decide ((0 : Int) ≤ (n : Int)) = true := by simp
  have z1 : decide ((n : Int) ≤ 0) = decide (n = 0) := by rw [decide_eq_decide]; omega
  have z2 : decide ((2 : Int) ≤ (n : Int)) = decide (1 < n) := by rw [decide_eq_decide]; omega
  have z3 : (decide ((2 : Int) ≤ (n : Int)) && decide ((n : Int) ≤ 2)) = decide (n = 2) := by
    rw [← Bool.decide_and, decide_eq_decide]; omega
  have o1 : ∀ b : Bool, (false == !b) = b := by decide
  have o2 : ∀ b : Bool, (true == !b) = !b := by decide
  unfold formC
  by_cases h1 : op = kThis
  · subst h1
    have e : forms.find? (fun f => decide (f.op = kThis)) = some ⟨kThis, false, false, 0, 0⟩ := by kernel_rfl
    rw [e, if_pos rfl]
    simp only [okF, em_is, o1, z0, z1, Bool.true_and]
  rw [if_neg h1]
  by_cases h2 : op = kRel
  · subst h2
    have e : forms.find? (fun f => decide (f.op = kRel)) = some ⟨kRel, true, false, 0, 0⟩ := by kernel_rfl
    rw [e, if_pos rfl]
    simp only [okF, em_is, o1, o2, z0, z1, Bool.true_and]
  rw [if_neg h2]
  by_cases h3 : op = kFrom
  · subst h3
    have e : forms.find? (fun f => decide (f.op = kFrom)) = some ⟨kFrom, true, true, 0, 0⟩ := by kernel_rfl
    rw [e, if_pos rfl]
    simp only [okF, em_is, o2, z0, z1, Bool.true_and]
  rw [if_neg h3]
  by_cases h4 : op = kOr
  · subst h4
    have e : forms.find? (fun f => decide (f.op = kOr)) = some ⟨kOr, false, false, 2, anyMo⟩ := by kernel_rfl
    rw [e, if_pos (Or.inl rfl)]
    simp only [okF, em_is, o1, z2]
  by_cases h5 : op = kAnd
  · subst h5
    have e : forms.find? (fun f => decide (f.op = kAnd)) = some ⟨kAnd, false, false, 2, anyMo⟩ := by kernel_rfl
    rw [e, if_pos (Or.inr rfl)]
    simp only [okF, em_is, o1, z2]
  rw [if_neg (by rintro (h | h) <;> contradiction)]
  by_cases h6 : op = kBut
  · subst h6
    have e : forms.find? (fun f => decide (f.op = kBut)) = some ⟨kBut, false, false, 2, 2⟩ := by kernel_rfl
    rw [e, if_pos rfl]
    simp only [okF, em_is, o1, z3]
  rw [if_neg h6]
  have e : forms.find? (fun f => decide (f.op = op)) = none := by
    rw [List.find?_eq_none]
    intro f hf
    simp only [forms, List.mem_cons, List.not_mem_nil, or_false] at hf
    rcases hf with rfl | rfl | rfl | rfl | rfl | rfl <;> simp only [decide_eq_true_eq] <;> (intro h; exact absurd h.symm (by assumption))
  rw [e]
/-- the code's form is the document's, and more -/
theorem form_le {op nm fo : ByteArray} {n : Nat} (h : formC op nm fo n = true) : formS op nm fo n = true := by
  rw [formC_eq] at h
  unfold formS
  unfold em at h
  by_cases h1 : op = kThis
  · rw [if_pos h1] at h ⊢
    simpa [and_assoc] using h
  rw [if_neg h1] at h ⊢
  by_cases h2 : op = kRel
  · rw [if_pos h2] at h ⊢
    simp only [Bool.and_eq_true] at h ⊢
    exact h.2
  rw [if_neg h2] at h ⊢
  by_cases h3 : op = kFrom
  · rw [if_pos h3] at h ⊢
    simp only [Bool.and_eq_true] at h
    exact h.2.2
  rw [if_neg h3] at h ⊢
  by_cases h4 : op = kOr ∨ op = kAnd
  · rw [if_pos h4] at h ⊢
    simp only [Bool.and_eq_true] at h ⊢
    exact ⟨⟨h.1, h.2.1⟩, h.2.2.1⟩
  rw [if_neg h4] at h ⊢
  by_cases h5 : op = kBut
  · rw [if_pos h5] at h ⊢
    simp only [Bool.and_eq_true] at h ⊢
    exact ⟨⟨h.1, h.2.1⟩, h.2.2⟩
  rw [if_neg h5] at h
  exact absurd h (by simp)
/-- where the names are right the document's form is the code's -/
theorem form_ge {k : Kd} {op nm fo : ByteArray} {n : Nat} (h : formS op nm fo n = true) (hn : namedS k op nm fo = true) (hk : ∀ s, k.has s = true → nameR s = true) (h64 : n ≤ 64) : formC op nm fo n = true := by
  have ne : ∀ s, nameR s = true → em s = false := fun s hs => by
    unfold em
    rw [decide_eq_false_iff_not]
    intro hz
    rw [nameR_is] at hs
    have := (Bool.and_eq_true _ _ ▸ hs).1
    have hb : bl s = [] := List.eq_nil_of_length_eq_zero (by rw [bl_size]; exact hz)
    rw [hb] at this
    exact absurd this (by decide)
  rw [formC_eq]
  unfold formS at h
  unfold namedS at hn
  by_cases h1 : op = kThis
  · rw [if_pos h1] at h ⊢
    simp only [em]
    simpa [and_assoc] using h
  rw [if_neg h1] at h ⊢
  by_cases h2 : op = kRel
  · subst h2
    rw [if_pos rfl] at h ⊢
    rw [if_neg (by decide), if_pos rfl] at hn
    rw [ne nm (hk nm hn)]
    simp only [Bool.not_false, Bool.true_and]
    exact h
  rw [if_neg h2] at h ⊢
  by_cases h3 : op = kFrom
  · rw [if_pos h3] at h hn ⊢
    rw [Bool.and_eq_true] at hn
    rw [ne nm hn.2, ne fo (hk fo hn.1)]
    simpa using h
  rw [if_neg h3] at h ⊢
  by_cases h4 : op = kOr ∨ op = kAnd
  · rw [if_pos h4] at h ⊢
    simp only [Bool.and_eq_true] at h ⊢
    exact ⟨h.1.1, h.1.2, h.2, decide_eq_true (by unfold anyMo; omega)⟩
  rw [if_neg h4] at h ⊢
  by_cases h5 : op = kBut
  · rw [if_pos h5] at h ⊢
    simp only [Bool.and_eq_true] at h ⊢
    exact ⟨h.1.1, h.1.2, h.2⟩
  rw [if_neg h5] at h
  exact absurd h (by simp)
mutual
theorem formE_le : ∀ e : Ex, allE ownC e = true → e.form = true
  | .mk op nm fo ps, h => by
    rw [allE, Bool.and_eq_true] at h
    rw [Ex.form, form_le (show formC op nm fo ps.length = true from h.1), formL_le ps h.2]
    rfl
theorem formL_le : ∀ l : List Ex, allL ownC l = true → formL l = true
  | [], _ => by rw [formL]
  | e :: l, h => by
    rw [allL, Bool.and_eq_true] at h
    rw [formL, formE_le e h.1, formL_le l h.2]
    rfl
end
mutual
theorem formE_ge (k : Kd) (hk : ∀ s, k.has s = true → nameR s = true) : ∀ e : Ex, e.form = true → e.named k = true → e.size ≤ 64 → allE ownC e = true
  | .mk op nm fo ps, h, hn, hs => by
    rw [Ex.form, Bool.and_eq_true] at h
    rw [Ex.named, Bool.and_eq_true] at hn
    rw [Ex.size] at hs
    have hlen : ps.length ≤ 64 := Nat.le_trans (len_size ps) (by omega)
    rw [allE, formL_ge k hk ps h.2 hn.2 (by omega), Bool.and_true]
    exact form_ge h.1 hn.1 hk hlen
theorem formL_ge (k : Kd) (hk : ∀ s, k.has s = true → nameR s = true) : ∀ l : List Ex, formL l = true → namedL k l = true → sizeL l ≤ 64 → allL ownC l = true
  | [], _, _, _ => by rw [allL]
  | e :: l, h, hn, hs => by
    rw [formL, Bool.and_eq_true] at h
    rw [namedL, Bool.and_eq_true] at hn
    rw [sizeL] at hs
    rw [allL, formE_ge k hk e h.1 hn.1 (by omega), formL_ge k hk l h.2 hn.2 (by omega)]
    rfl
theorem len_size : ∀ l : List Ex, l.length ≤ sizeL l
  | [] => by simp
  | .mk op nm fo ps :: l => by
    have := len_size l
    rw [sizeL, Ex.size, List.length_cons]
    omega
end
theorem formK_le {l : List Kd} (h : formKC l = true) : formK l = true := by
  unfold formKC allK allR at h
  unfold formK
  rw [List.all_eq_true] at h ⊢
  intro k hk
  have := h k hk
  rw [List.all_eq_true] at this ⊢
  exact fun r hr => formE_le r.e (this r hr)
theorem checkC_iff (l : List Kd) : checkC l = 0 ↔ deepK l = false ∧ formKC l = true ∧ rightK l = true := by
  unfold checkC
  cases deepK l <;> cases formKC l <;> cases rightK l <;> simp
theorem checkC_zero (l : List Kd) : checkC l = 0 ↔ check l = 0 := by
  rw [checkC_iff, check_iff]
  constructor
  · rintro ⟨h1, h2, h3⟩
    exact ⟨h1, formK_le h2, h3⟩
  · rintro ⟨h1, h2, h3⟩
    refine ⟨h1, ?_, h3⟩
    have h0 : check l = 0 := (check_iff l).2 ⟨h1, h2, h3⟩
    unfold formKC allK allR
    unfold formK at h2
    unfold rightK at h3
    rw [Bool.and_eq_true] at h3
    rw [List.all_eq_true] at h2 ⊢
    intro k hk
    have f := h2 k hk
    have n := List.all_eq_true.1 h3.2 k hk
    simp only [Bool.and_eq_true] at n
    rw [List.all_eq_true] at f ⊢
    have nr := List.all_eq_true.1 n.2.2
    intro r hr
    have nn := nr r hr
    rw [Bool.and_eq_true] at nn
    refine formE_ge k (fun s hs => ?_) r.e (f r hr) nn.2 (check_size h0 hk hr).1
    unfold Kd.has at hs
    obtain ⟨x, hx, hxs⟩ := List.any_eq_true.1 hs
    have := nr x hx
    rw [Bool.and_eq_true] at this
    rw [← of_decide_eq_true hxs]
    exact this.1
theorem checkC_cases (l : List Kd) : checkC l = 0 ∨ checkC l = 120 ∨ checkC l = 121 ∨ checkC l = 122 := by
  unfold checkC
  cases deepK l <;> cases formKC l <;> cases rightK l <;> simp
theorem checkC_alike {l m : List Kd} (h : RuleFacts.Alike l m) : checkC l = checkC m := by
  have e0 : deepK l = deepK m := by
    unfold deepK
    rw [h.1, any_alike h _ fun n a b => by simp only [any_rot, List.length_append, Nat.add_comm]]
  have e2 : formKC l = formKC m := all_alike h _ fun _ a b => all_rot _ b a
  have e3 : rightK l = rightK m := by
    unfold rightK
    rw [names_alike h]
    congr 1
    refine all_alike h _ fun n a b => ?_
    have hm : ∀ e : Ex, e.named ⟨n, a ++ b⟩ = e.named ⟨n, b ++ a⟩ := fun e => named_has e fun r => any_rot _ b a
    simp only [List.map_append, once_rot (b.map (·.rel)) (a.map (·.rel)), hm]
    rw [all_rot _ b a]
  unfold checkC
  rw [e0, e2, e3]
theorem checkC_rot (a b : List Kd) : checkC (b ++ a) = checkC (a ++ b) := by
  have e1 : deepK (b ++ a) = deepK (a ++ b) := by unfold deepK; rw [any_rot]; simp only [List.length_append, Nat.add_comm]
  have e2 : formKC (b ++ a) = formKC (a ++ b) := all_rot _ _ _
  have e3 : rightK (b ++ a) = rightK (a ++ b) := by unfold rightK; rw [all_rot, List.map_append, List.map_append, once_rot]
  unfold checkC
  rw [e1, e2, e3]
end Go.Proofs.YtkmnbdomikpakaaDoor.RuleChkC
