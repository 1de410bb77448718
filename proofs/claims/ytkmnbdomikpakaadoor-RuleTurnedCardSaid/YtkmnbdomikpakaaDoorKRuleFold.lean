/- RuleWalk, RuleFold. -/
import Derived.Test.YtkmnbdomikpakaaDoorKRuleGl
import Derived.Test.YtkmnbdomikpakaaDoorKTurnB
import Derived.Shelf.Abstract
namespace Go.Proofs.YtkmnbdomikpakaaDoor.RuleWalk
open Go.RowKit Base KeyPlain TuplePlain TupleRef RulePlain RuleMem RuleRec RuleChk RuleAlike RuleGl TurnB

section
variable {σ : Type} (st : σ → Ex → Nat → σ × Bool)
mutual
/-- each expression ahead of its parts, as long as each is right -/
def walkE (d : Nat) (s : σ) : Ex → σ × Bool
  | .mk op nm fo ps => if (st s (.mk op nm fo ps) d).2 then walkL (d + 1) (st s (.mk op nm fo ps) d).1 ps else ((st s (.mk op nm fo ps) d).1, false)
def walkL (d : Nat) (s : σ) : List Ex → σ × Bool
  | [] => (s, true)
  | e :: l => if (walkE d s e).2 then walkL d (walkE d s e).1 l else ((walkE d s e).1, false)
end
end
/-- what is asked of what the walk calls -/
def Asks {σ : Type} (st : σ → Ex → Nat → σ × Bool) (I : World → σ → Prop) (D : Ex → Prop) (F : Nat → Prop) (B fn : Nat) (caps : Array Value) : Prop :=
  ∀ (s : σ) (e : Ex) (q : List Value) (d : Nat) (w : World), Lay w B e q → B ≤ w.heap.size → (∀ g, F g → g < w.heap.size) → d ≤ 2000000000 → D e → I w s →
    Calls Tryd.prog fn (#[.agg q.toArray, .int .i64 (d : Int)] ++ caps) w fun r w' => r = .returned (.bool (st s e d).2) ∧ I w' (st s e d).1 ∧ Turn F w w'
theorem see_turn {F : Nat → Prop} {w w' : World} {B : Nat} (h : Turn F w w') (hF : ∀ g, F g → B ≤ g) (hB : B ≤ w.heap.size) : ∀ a vs, Sees w B a vs → Sees w' B a vs := fun _ _ q => q.below (h.below hB hF)
set_option maxRecDepth 100000 in
set_option maxHeartbeats 6400000 in
theorem walk_step {σ : Type} (st : σ → Ex → Nat → σ × Bool) (I : World → σ → Prop) (D : Ex → Prop) (hD : ∀ op nm fo ps, D (.mk op nm fo ps) → ∀ e, e ∈ ps → D e) (F : Nat → Prop) (B fn : Nat) (caps : Array Value) (hen : Enters Tryd.prog fn) (hF : ∀ g, F g → B ≤ g)
    (hI : ∀ w w' s, I w s → Below w.heap.size w w' → I w' s) (hcb : Asks st I D F B fn caps) (N : Nat)
    (HI0 : ∀ (e : Ex) (q : List Value) (d : Nat) (s : σ) (w : World), e.size ≤ N → Lay w B e q → B ≤ w.heap.size → (∀ g, F g → g < w.heap.size) → d + e.deep ≤ 2000000000 → D e → I w s →
      Calls Tryd.prog 39 #[.agg q.toArray, .int .i64 (d : Int), .func (.func fn) #[] caps] w fun r w' => r = .returned (.bool (walkE st d s e).2) ∧ I w' (walkE st d s e).1 ∧ Turn F w w')
    (op nm fo : ByteArray) (ps : List Ex) : ∀ (q : List Value) (d : Nat) (s : σ) (w : World), (Ex.mk op nm fo ps).size ≤ N + 1 → Lay w B (.mk op nm fo ps) q → B ≤ w.heap.size → (∀ g, F g → g < w.heap.size) → d + (Ex.mk op nm fo ps).deep ≤ 2000000000 → D (.mk op nm fo ps) → I w s →
      Calls Tryd.prog 39 #[.agg q.toArray, .int .i64 (d : Int), .func (.func fn) #[] caps] w fun r w' => r = .returned (.bool (walkE st d s (.mk op nm fo ps)).2) ∧ I w' (walkE st d s (.mk op nm fo ps)).1 ∧ Turn F w w' := by
  intro q d s w hN hL hBw hFw hd hDe hIw
  obtain ⟨A, c, rfl, hs, hl⟩ := hL.open
  simp only [Ex.op, Ex.nm, Ex.fo, Ex.ps] at hl hs hL ⊢
  have HLA := Lib.hid hL
  unfold maxLen at hl
  have HZ := Lib.hid (show sizeL ps ≤ N from by simp only [Ex.size] at hN; omega)
  have HD := Lib.hid (show d + 1 + deepL ps ≤ 2000000000 from by simp only [Ex.deep] at hd; omega)
  have hd1 : d ≤ 2000000000 := by have := HD.out; omega
  have HHI := Lib.hid HI0
  have HF := Lib.hid hF
  have HI := Lib.hid hI
  obtain ⟨w1, hw1⟩ : ∃ v, v = w.alloc (.cells #[.string op, .string nm, .string fo, .slice A ps.length c] 34) := ⟨_, rfl⟩
  obtain ⟨b, hbe⟩ : ∃ v, v = w.heap.size := ⟨_, rfl⟩
  have hb1 : Below w.heap.size w w1 := by rw [hw1]; exact al _ _
  have a1 : w1.heap[b]? = some (.cells #[.string op, .string nm, .string fo, .slice A ps.length c] 34 (0, 0)) := by rw [hw1, hbe]; exact heap_alloc_new w _
  have hFb : ¬ F b := fun h => by have := hFw b h; omega
  have hB1 : B ≤ w1.heap.size := Nat.le_trans hBw hb1.size
  have hFw1 : ∀ g, F g → g < w1.heap.size := fun g h => Nat.lt_of_lt_of_le (hFw g h) hb1.size
  have hI1 : I w1 s := hI _ _ _ hIw hb1
  have hcall := hcb s (.mk op nm fo ps) _ d w1 (HLA.out.imp fun _ _ h => h.below (hb1.mono hBw)) hB1 hFw1 hd1 hDe hI1
  have HDP := Lib.hid (hD op nm fo ps hDe)
  have HS := Lib.hid (hs.imp (fun a vs (h : Sees w B a vs) => h.below (hb1.mono hBw)) fun _ _ _ h => h.imp fun a vs (h : Sees w B a vs) => h.below (hb1.mono hBw))
  have HW := Lib.hid (show walkE st d s (.mk op nm fo ps) = if (st s (.mk op nm fo ps) d).2 then walkL st (d + 1) (st s (.mk op nm fo ps) d).1 ps else ((st s (.mk op nm fo ps) d).1, false) from by rw [walkE])
  generalize walkE st d s (.mk op nm fo ps) = WR at *
  generalize st s (.mk op nm fo ps) d = sb at *
  obtain ⟨s1, bb⟩ := sb
  simp only at hcall
  have HB1 := Lib.hid hb1
  have HA1 := Lib.hid a1
  have HFB := Lib.hid hFb
  have HBW1 := Lib.hid hB1
  have HFW1 := Lib.hid hFw1
  have HWE := Lib.hid hw1
  have HBE := Lib.hid hbe
  obtain ⟨d0, d1, d2, d3⟩ := four_at a1
  have henter := fun args (w : World) => hen args w
  clear hw1 a1 hbe hb1 hs hL hN hd hDe hD hIw hFb hB1 hFw1 hI1 HI0 hF hI hcb hBw hFw
  go_enter Tryd.func39, Tryd.ntmps39
  go_upto_region 1 with fail
  try rw [← HWE.out]
  try rw [← HBE.out]
  clear HWE
  go_wp2_with fail
  clear d0 d1 d2 d3
  (with_reducible refine hcall.mono ?_)
  clear hcall
  rintro r w2 ⟨rfl, hI2, ht⟩
  have HT2 := Lib.hid ht
  have HI2 := Lib.hid hI2
  clear ht hI2
  cases bb with
  | false =>
    have HR := Lib.hid (show WR = (s1, false) from by rw [HW.out]; rfl)
    go_wp2_with fail
    go_ret
    refine ⟨?_, ?_, ?_⟩
    · exact ret_bool (by rw [HR.out])
    · rw [HR.out]; exact HI2.out
    · exact (Turn.ofBelow HB1.out).trans HT2.out fun _ _ h => h
  | true =>
    have HR := Lib.hid (show WR = walkL st (d + 1) s1 ps from by rw [HW.out]; rfl)
    clear HW
    have HTC := Lib.hid (fun (w' : World) (ht : Turn F w1 w') => four_at (ht.at HA1.out HFB.out))
    obtain ⟨d0, d1, d2, d3⟩ := HTC.out w2 HT2.out
    go_wp2_with fail
    clear d0 d1 d2 d3
    go_loopw [8, 17] (fun z i wr => z = z ∧ ∃ (k : Nat) (sk : σ), k ≤ ps.length ∧ i = .int .i64 k ∧ I wr sk ∧ walkL st (d + 1) s1 ps = walkL st (d + 1) sk (ps.drop k) ∧ Turn F w1 wr) (fun _ i _ => ps.length - (intOf i).toNat)
    case atStart => exact ⟨rfl, 0, s1, by omega, rfl, HI2.out, rfl, HT2.out⟩
    case round =>
      obtain ⟨_, k, sk, hk, rfl, hIk, hw, ht⟩ := hrel
      have HT := Lib.hid ht
      have HIk := Lib.hid hIk
      have HWK := Lib.hid (HR.out.trans hw)
      clear hIk hw ht
      by_cases hlt : k < ps.length
      · have hS := HS.out.imp (see_turn HT.out HF.out HBW1.out) fun _ _ _ h => h.imp (see_turn HT.out HF.out HBW1.out)
        obtain ⟨ad, x0, x1, x2, x3, rfl, hbk, y0, y1, y2, y3, hy⟩ := hS.part k hlt
        have hms := Nat.le_trans (size_mem (List.getElem_mem hlt)) HZ.out
        have hdm := deepL_mem (List.getElem_mem hlt)
        have hdr := List.drop_eq_getElem_cons hlt
        have hDk := HDP.out _ (List.getElem_mem hlt)
        generalize ps[k] = ek at *
        obtain ⟨Z, z, hxe, _⟩ := hy.open
        simp only [List.cons.injEq, and_true] at hxe
        obtain ⟨rfl, rfl, rfl, rfl⟩ := hxe
        obtain ⟨w3, hw3⟩ : ∃ v, v = wr.alloc (.cells #[.string ek.op, .string ek.nm, .string ek.fo, .slice Z ek.ps.length z] 34) := ⟨_, rfl⟩
        obtain ⟨b3, hb3e⟩ : ∃ v, v = wr.heap.size := ⟨_, rfl⟩
        have hb3 : Below wr.heap.size wr w3 := by rw [hw3]; exact al _ _
        have a3 : w3.heap[b3]? = some (.cells #[.string ek.op, .string ek.nm, .string ek.fo, .slice Z ek.ps.length z] 34 (0, 0)) := by rw [hw3, hb3e]; exact heap_alloc_new wr _
        have hBr : B ≤ wr.heap.size := Nat.le_trans HBW1.out HT.out.size
        have hFr : ∀ g, F g → g < w3.heap.size := fun g h => Nat.lt_of_lt_of_le (HFW1.out g h) (Nat.le_trans HT.out.size hb3.size)
        have hcall := HHI.out ek _ (d + 1) sk w3 hms (hy.imp fun _ _ h => h.below (hb3.mono hBr)) (Nat.le_trans hBr hb3.size) hFr (by have := HD.out; omega) hDk (HI.out _ _ _ HIk.out hb3)
        rw [show ((d + 1 : Nat) : Int) = (d : Int) + 1 from by omega] at hcall
        have HN := Lib.hid (show walkL st (d + 1) sk (ps.drop k) = if (walkE st (d + 1) sk ek).2 then walkL st (d + 1) (walkE st (d + 1) sk ek).1 (ps.drop (k + 1)) else ((walkE st (d + 1) sk ek).1, false) from by rw [hdr, walkL])
        generalize walkE st (d + 1) sk ek = rk at *
        obtain ⟨sn, bn⟩ := rk
        simp only at hcall
        have HLT := Lib.hid (Nat.not_le_of_lt hlt)
        have HW3 := Lib.hid hw3
        have HB3E := Lib.hid hb3e
        have HT3 := Lib.hid (HT.out.trans (Turn.ofBelow (F := F) hb3) fun _ _ h => h)
        have hdw := HD.out
        have hd2 : d + 1 ≤ 2000000000 := by omega
        obtain ⟨p0, p1, p2, p3⟩ := four_at a3
        clear hbk hy hms hb3 a3 hw3 hb3e hS hdm hdr hBr hFr hdw hDk
        go_upto_region 6 with fail
        try rw [← HW3.out]
        try rw [← HB3E.out]
        clear HW3 y0 y1 y2 y3
        go_wp2_with fail
        (with_reducible refine hcall.mono ?_)
        clear hcall p0 p1 p2 p3
        rintro r' w4 ⟨rfl, hI4, ht4⟩
        have HT4 := Lib.hid (HT3.out.trans ht4 fun _ _ h => h)
        have HI4 := Lib.hid hI4
        clear ht4 hI4
        cases bn with
        | false =>
          have HX := Lib.hid (show WR = (sn, false) from by rw [HWK.out, HN.out]; rfl)
          go_wp2_with fail
          go_ret
          refine ⟨?_, ?_, ?_⟩
          · exact ret_bool (by rw [HX.out])
          · rw [HX.out]; exact HI4.out
          · exact (Turn.ofBelow HB1.out).trans HT4.out fun _ _ h => h
        | true =>
          have HX := Lib.hid (show walkL st (d + 1) s1 ps = walkL st (d + 1) sn (ps.drop (k + 1)) from by rw [← HR.out, HWK.out, HN.out]; rfl)
          go_wp2_with fail
          go_roundw
          case rel => exact ⟨trivial, k + 1, sn, by have := HLT.out; omega, by go_num, HI4.out, HX.out, HT4.out⟩
          case measure => have := HLT.out; simp [intOf]; omega
      · have HX := Lib.hid (show WR = (sk, true) from by rw [HWK.out, List.drop_of_length_le (by omega), walkL])
        have hn : ¬ (k : Int) < (ps.length : Int) := by omega
        go_wp2_with fail
        go_ret
        refine ⟨?_, ?_, ?_⟩
        · exact ret_bool (by rw [HX.out])
        · rw [HX.out]; exact HIk.out
        · exact (Turn.ofBelow HB1.out).trans HT.out fun _ _ h => h
/-- the walk, whatever it asks -/
theorem walk_any {σ : Type} (st : σ → Ex → Nat → σ × Bool) (I : World → σ → Prop) (D : Ex → Prop) (hD : ∀ op nm fo ps, D (.mk op nm fo ps) → ∀ e, e ∈ ps → D e) (F : Nat → Prop) (B fn : Nat) (caps : Array Value) (hen : Enters Tryd.prog fn) (hF : ∀ g, F g → B ≤ g)
    (hI : ∀ w w' s, I w s → Below w.heap.size w w' → I w' s) (hcb : Asks st I D F B fn caps) :
    ∀ (N : Nat) (e : Ex) (q : List Value) (d : Nat) (s : σ) (w : World), e.size ≤ N → Lay w B e q → B ≤ w.heap.size → (∀ g, F g → g < w.heap.size) → d + e.deep ≤ 2000000000 → D e → I w s →
      Calls Tryd.prog 39 #[.agg q.toArray, .int .i64 (d : Int), .func (.func fn) #[] caps] w fun r w' => r = .returned (.bool (walkE st d s e).2) ∧ I w' (walkE st d s e).1 ∧ Turn F w w' := by
  intro N
  induction N with
  | zero => intro e; obtain ⟨op, nm, fo, ps⟩ := e; intro q d s w hN; simp only [Ex.size] at hN; omega
  | succ N ih => intro e; obtain ⟨op, nm, fo, ps⟩ := e; exact walk_step st I D hD F B fn caps hen hF hI hcb N ih op nm fo ps
end Go.Proofs.YtkmnbdomikpakaaDoor.RuleWalk
namespace Go.Proofs.YtkmnbdomikpakaaDoor.RuleFold
open Go.RowKit Base KeyPlain TuplePlain TupleRef RulePlain RuleMem RuleRec RuleChk RuleAlike RuleGl TurnB RuleWalk

/-- the captured number -/
def Cell (G : Nat) (w : World) (v : Int) : Prop := w.heap[G]? = some (.cells #[.int .i64 v] 3 (0, 0))
theorem Cell.at0 {G : Nat} {w : World} {v : Int} (h : Cell G w v) : w.cell? ⟨G, 0, none⟩ = some (.int .i64 v) ∧ w.frozen? ⟨G, 0, none⟩ = false := by
  unfold Cell at h
  constructor <;> simp [World.cell?, World.frozen?, h]
theorem Cell.set {G : Nat} {w : World} {v : Int} (h : Cell G w v) (u : Int) : Cell G (w.setCell ⟨G, 0, none⟩ (.int .i64 u)) u := at_set h 0 _
theorem Cell.later {G : Nat} {w w' : World} {v : Int} (h : Cell G w v) (hb : Below w.heap.size w w') : Cell G w' v := (hb.block G (heap_lt h)).trans h
def stD (s : Nat) (_ : Ex) (d : Nat) : Nat × Bool := (max s d, true)
def stS (s : Nat) (_ : Ex) (_ : Nat) : Nat × Bool := (s + 1, true)
def stF (s : Nat) (_ : Ex) (d : Nat) : Nat × Bool := (s + 1, decide (d ≤ 8) && decide (wrap (s + 1) ≤ 64))
set_option maxRecDepth 100000 in
set_option maxHeartbeats 3200000 in
theorem deep_asks (B G : Nat) : Asks stD (fun w s => Cell G w ((s : Int))) (fun _ => True) (fun g => g = G) B 40 #[.pointer (some ⟨G, 0, none⟩)] := by
  intro s e q d w hL _ hFw hd _ hI
  obtain ⟨A, c, rfl, _, _⟩ := hL.open
  show Calls _ _ #[.agg #[.string e.op, .string e.nm, .string e.fo, .slice A e.ps.length c], .int .i64 (d : Int), .pointer (some ⟨G, 0, none⟩)] w _
  obtain ⟨w1, hw1⟩ : ∃ v, v = w.alloc (.cells #[.string e.op, .string e.nm, .string e.fo, .slice A e.ps.length c] 34) := ⟨_, rfl⟩
  obtain ⟨b, hbe⟩ : ∃ v, v = w.heap.size := ⟨_, rfl⟩
  have hb1 : Below w.heap.size w w1 := by rw [hw1]; exact al _ _
  have a1 : w1.heap[b]? = some (.cells #[.string e.op, .string e.nm, .string e.fo, .slice A e.ps.length c] 34 (0, 0)) := by rw [hw1, hbe]; exact heap_alloc_new w _
  have HW := Lib.hid hw1
  have HBE := Lib.hid hbe
  clear hw1 hbe
  have hc := Cell.at0 (Cell.later hI hb1)
  have hc1 := hc.1
  have hc2 := hc.2
  have HC := Lib.hid (Cell.later hI hb1)
  have HB := Lib.hid hb1
  clear hb1 hc hI hFw hL a1
  unfold stD
  dsimp only
  go_enter Tryd.func40, Tryd.ntmps40
  go_upto_region 1 with fail
  try rw [← HW.out]
  try rw [← HBE.out]
  clear HW
  go_wp2_with fail
  · go_ret
    exact ⟨rfl, by rw [show max s d = d from by omega]; exact HC.out.set _, (Turn.ofBelow HB.out).trans (Turn.set (Turn.refl (fun g => g = G) w1) ⟨G, 0, none⟩ (.inr rfl) _) fun _ _ h => h⟩
  · go_ret
    exact ⟨rfl, by rw [show max s d = s from by omega]; exact HC.out.set _, (Turn.ofBelow HB.out).trans (Turn.set (Turn.refl (fun g => g = G) w1) ⟨G, 0, none⟩ (.inr rfl) _) fun _ _ h => h⟩
set_option maxRecDepth 100000 in
set_option maxHeartbeats 3200000 in
theorem size_asks (B G : Nat) : Asks stS (fun w s => Cell G w (wrap s)) (fun _ => True) (fun g => g = G) B 41 #[.pointer (some ⟨G, 0, none⟩)] := by
  intro s e q d w hL _ hFw hd _ hI
  obtain ⟨A, c, rfl, _, _⟩ := hL.open
  show Calls _ _ #[.agg #[.string e.op, .string e.nm, .string e.fo, .slice A e.ps.length c], .int .i64 (d : Int), .pointer (some ⟨G, 0, none⟩)] w _
  obtain ⟨w1, hw1⟩ : ∃ v, v = w.alloc (.cells #[.string e.op, .string e.nm, .string e.fo, .slice A e.ps.length c] 34) := ⟨_, rfl⟩
  obtain ⟨b, hbe⟩ : ∃ v, v = w.heap.size := ⟨_, rfl⟩
  have hb1 : Below w.heap.size w w1 := by rw [hw1]; exact al _ _
  have a1 : w1.heap[b]? = some (.cells #[.string e.op, .string e.nm, .string e.fo, .slice A e.ps.length c] 34 (0, 0)) := by rw [hw1, hbe]; exact heap_alloc_new w _
  have HW := Lib.hid hw1
  have HBE := Lib.hid hbe
  clear hw1 hbe
  have hc := Cell.at0 (Cell.later hI hb1)
  have hc1 := hc.1
  have hc2 := hc.2
  have HC := Lib.hid (Cell.later hI hb1)
  have HB := Lib.hid hb1
  clear hb1 hc hI hFw hL a1
  unfold stS
  dsimp only
  have HWN := Lib.hid (show wrap64 (wrap s + 1) = wrap (s + 1) from by have h := wrap_add s 1; rwa [wrap_one] at h)
  generalize wrap s = s9 at *
  generalize wrap (s + 1) = n9 at *
  go_enter Tryd.func41, Tryd.ntmps41
  go_upto_region 1 with fail
  try rw [← HW.out]
  try rw [← HBE.out]
  clear HW
  go_wp2_with fail
  go_ret
  exact ⟨rfl, by rw [← HWN.out]; exact HC.out.set _, (Turn.ofBelow HB.out).trans (Turn.set (Turn.refl (fun g => g = G) w1) ⟨G, 0, none⟩ (.inr rfl) _) fun _ _ h => h⟩
set_option maxRecDepth 100000 in
set_option maxHeartbeats 3200000 in
theorem fits_asks (B G : Nat) : Asks stF (fun w s => Cell G w (wrap s)) (fun _ => True) (fun g => g = G) B 72 #[.pointer (some ⟨G, 0, none⟩)] := by
  intro s e q d w hL _ hFw hd _ hI
  obtain ⟨A, c, rfl, _, _⟩ := hL.open
  show Calls _ _ #[.agg #[.string e.op, .string e.nm, .string e.fo, .slice A e.ps.length c], .int .i64 (d : Int), .pointer (some ⟨G, 0, none⟩)] w _
  obtain ⟨w1, hw1⟩ : ∃ v, v = w.alloc (.cells #[.string e.op, .string e.nm, .string e.fo, .slice A e.ps.length c] 34) := ⟨_, rfl⟩
  obtain ⟨b, hbe⟩ : ∃ v, v = w.heap.size := ⟨_, rfl⟩
  have hb1 : Below w.heap.size w w1 := by rw [hw1]; exact al _ _
  have a1 : w1.heap[b]? = some (.cells #[.string e.op, .string e.nm, .string e.fo, .slice A e.ps.length c] 34 (0, 0)) := by rw [hw1, hbe]; exact heap_alloc_new w _
  have HW := Lib.hid hw1
  have HBE := Lib.hid hbe
  clear hw1 hbe
  have hc := Cell.at0 (Cell.later hI hb1)
  have hc1 := hc.1
  have hc2 := hc.2
  have HC := Lib.hid (Cell.later hI hb1)
  have HB := Lib.hid hb1
  clear hb1 hc hI hFw hL a1
  unfold stF
  dsimp only
  have HWN := Lib.hid (show wrap64 (wrap s + 1) = wrap (s + 1) from by have h := wrap_add s 1; rwa [wrap_one] at h)
  generalize wrap s = s9 at *
  generalize wrap (s + 1) = n9 at *
  go_enter Tryd.func72, Tryd.ntmps72
  go_upto_region 1 with fail
  try rw [← HW.out]
  try rw [← HBE.out]
  clear HW
  go_upto_region 2 with fail
  rw [HWN.out]
  have HS := Lib.hid (HC.out.set n9)
  have HT := Lib.hid ((Turn.ofBelow HB.out).trans (Turn.set (Turn.refl (fun g => g = G) w1) ⟨G, 0, none⟩ (.inr rfl) (.int .i64 n9)) fun _ _ h => h)
  generalize w1.setCell ⟨G, 0, none⟩ (.int .i64 n9) = w2 at *
  have hc3 := (Cell.at0 HS.out).1
  clear hc1 hc2
  by_cases h8 : d ≤ 8
  · have i8 : (d : Int) ≤ 8 := by omega
    have HV := Lib.hid (show (decide (d ≤ 8) && decide (n9 ≤ 64)) = decide (n9 ≤ 64) from by rw [decide_eq_true h8, Bool.true_and])
    clear h8
    by_cases h64 : n9 ≤ 64
    · have HD := Lib.hid (decide_eq_true h64)
      go_wp2_with fail
      go_ret
      exact ⟨ret_bool (by rw [HV.out, HD.out]), HS.out, HT.out⟩
    · have HD := Lib.hid (decide_eq_false h64)
      go_wp2_with fail
      go_ret
      exact ⟨ret_bool (by rw [HV.out, HD.out]), HS.out, HT.out⟩
  · have i8 : ¬ (d : Int) ≤ 8 := by omega
    have HV := Lib.hid (show (decide (d ≤ 8) && decide (n9 ≤ 64)) = false from by rw [decide_eq_false h8, Bool.false_and])
    clear h8
    go_wp2_with fail
    go_ret
    exact ⟨ret_bool (by rw [HV.out]), HS.out, HT.out⟩
mutual
theorem walkE_D : ∀ (e : Ex) (d s : Nat), walkE stD (d + 1) s e = (max s (d + e.deep), true)
  | .mk op nm fo ps, d, s => by
    simp only [walkE, stD, if_true, Ex.deep]
    rw [walkL_D ps (d + 1) (max s (d + 1)) (by omega)]
    congr 1
    omega
theorem walkL_D : ∀ (l : List Ex) (d s : Nat), d ≤ s → walkL stD (d + 1) s l = (max s (d + deepL l), true)
  | [], d, s, h => by
    simp only [walkL, deepL]
    congr 1
    omega
  | e :: l, d, s, h => by
    simp only [walkL, walkE_D e d s, if_true, deepL]
    rw [walkL_D l d (max s (d + e.deep)) (by omega)]
    congr 1
    omega
end
mutual
theorem walkE_S : ∀ (e : Ex) (d s : Nat), walkE stS d s e = (s + e.size, true)
  | .mk op nm fo ps, d, s => by
    simp only [walkE, stS, if_true, Ex.size]
    rw [walkL_S ps]
    congr 1
    omega
theorem walkL_S : ∀ (l : List Ex) (d s : Nat), walkL stS d s l = (s + sizeL l, true)
  | [], d, s => by simp only [walkL, sizeL, Nat.add_zero]
  | e :: l, d, s => by
    simp only [walkL, walkE_S e d s, if_true, sizeL]
    rw [walkL_S l]
    congr 1
    omega
end
theorem wrap_small {n : Nat} (h : n ≤ 1000) : wrap n = (n : Int) := by simp only [wrap, wrap64]; omega
set_option maxRecDepth 100000 in
def PE (e : Ex) : Prop := ∀ d s : Nat, s ≤ 64 → ((walkE stF (d + 1) s e).2 = true ↔ (d + e.deep ≤ 8 ∧ s + e.size ≤ 64)) ∧ ((walkE stF (d + 1) s e).2 = true → (walkE stF (d + 1) s e).1 = s + e.size)
def PLs (l : List Ex) : Prop := ∀ d s : Nat, s ≤ 64 → d ≤ 8 → ((walkL stF (d + 1) s l).2 = true ↔ (d + deepL l ≤ 8 ∧ s + sizeL l ≤ 64)) ∧ ((walkL stF (d + 1) s l).2 = true → (walkL stF (d + 1) s l).1 = s + sizeL l)
theorem step_E (op nm fo : ByteArray) (ps : List Ex) (H : PLs ps) : PE (.mk op nm fo ps) := by
  intro d s hs
  have hws : wrap (s + 1) = ((s + 1 : Nat) : Int) := wrap_small (n := s + 1) (by omega)
  by_cases h : d + 1 ≤ 8 ∧ s + 1 ≤ 64
  · have e1 : stF s (.mk op nm fo ps) (d + 1) = (s + 1, true) := by
      unfold stF
      rw [decide_eq_true h.1, decide_eq_true (show wrap (s + 1) ≤ 64 by omega)]; rfl
    have e2 : walkE stF (d + 1) s (.mk op nm fo ps) = walkL stF (d + 1 + 1) (s + 1) ps := by rw [walkE, e1]; rfl
    rw [e2]
    simp only [Ex.size, Ex.deep]
    have k := H (d + 1) (s + 1) (by omega) (by omega)
    constructor
    · rw [k.1]; omega
    · intro q; rw [k.2 q]; omega
  · have e1 : stF s (.mk op nm fo ps) (d + 1) = (s + 1, false) := by
      unfold stF
      by_cases h1 : d + 1 ≤ 8
      · rw [decide_eq_false (show ¬ wrap (s + 1) ≤ 64 by omega), Bool.and_false]
      · rw [decide_eq_false h1, Bool.false_and]
    have e2 : walkE stF (d + 1) s (.mk op nm fo ps) = (s + 1, false) := by rw [walkE, e1]; rfl
    rw [e2]
    simp only [Ex.size, Ex.deep]
    refine ⟨⟨fun q => Bool.noConfusion q, fun q => (h ⟨by omega, by omega⟩).elim⟩, fun q => Bool.noConfusion q⟩
theorem step_L (e : Ex) (l : List Ex) (HE : PE e) (HL : PLs l) : PLs (e :: l) := by
  intro d s hs hd
  have k := HE d s hs
  simp only [walkL, deepL, sizeL]
  by_cases h : d + e.deep ≤ 8 ∧ s + e.size ≤ 64
  · have e1 : (walkE stF (d + 1) s e).2 = true := k.1.2 h
    rw [if_pos e1, k.2 e1]
    have m := HL d (s + e.size) (by omega) hd
    constructor
    · rw [m.1]; omega
    · intro q; rw [m.2 q]; omega
  · have e1 : ¬ (walkE stF (d + 1) s e).2 = true := fun q => h (k.1.1 q)
    rw [if_neg e1]
    refine ⟨⟨fun q => Bool.noConfusion q, fun q => (h ⟨by omega, by omega⟩).elim⟩, fun q => Bool.noConfusion q⟩
theorem nil_L : PLs [] := by
  intro d s hs hd
  simp only [walkL, deepL, sizeL]
  exact ⟨⟨fun _ => ⟨by omega, by omega⟩, fun _ => trivial⟩, fun _ => rfl⟩
theorem list_L : ∀ l : List Ex, (∀ e, e ∈ l → PE e) → PLs l
  | [], _ => nil_L
  | e :: l, h => step_L e l (h e (by simp)) (list_L l fun x hx => h x (by simp [hx]))
theorem size_E (N : Nat) : ∀ e : Ex, e.size ≤ N → PE e := by
  induction N with
  | zero => intro e; obtain ⟨op, nm, fo, ps⟩ := e; intro h; simp only [Ex.size] at h; omega
  | succ N ih =>
    intro e
    obtain ⟨op, nm, fo, ps⟩ := e
    intro h
    simp only [Ex.size] at h
    exact step_E op nm fo ps (list_L ps fun e he => ih e (by have := size_mem he; omega))
/-- neither too deep nor too great -/
def fitsX (e : Ex) : Bool := decide (e.deep ≤ 8) && decide (e.size ≤ 64)
theorem walkE_F (e : Ex) : (walkE stF 1 0 e).2 = fitsX e := by
  have k := (size_E e.size e (Nat.le_refl _) 0 0 (by omega)).1
  simp only [Nat.zero_add] at k
  rw [Bool.eq_iff_iff, fitsX, Bool.and_eq_true, decide_eq_true_eq, decide_eq_true_eq]
  exact k
set_option maxRecDepth 100000 in
set_option maxHeartbeats 3200000 in
theorem cDeep_any (e : Ex) (q : List Value) (w : World) (hL : Lay w w.heap.size e q) (hd : e.deep ≤ 1000000000) : Calls Tryd.prog 17 #[.agg q.toArray] w fun r w' => r = .returned (.int .i64 (e.deep : Int)) ∧ Below w.heap.size w w' := by
  obtain ⟨A, c, rfl, _, _⟩ := hL.open
  obtain ⟨w1, hw1⟩ : ∃ v, v = w.alloc (.cells #[.string e.op, .string e.nm, .string e.fo, .slice A e.ps.length c] 34) := ⟨_, rfl⟩
  obtain ⟨b, hbe⟩ : ∃ v, v = w.heap.size := ⟨_, rfl⟩
  have hb1 : Below w.heap.size w w1 := by rw [hw1]; exact al _ _
  have a1 : w1.heap[b]? = some (.cells #[.string e.op, .string e.nm, .string e.fo, .slice A e.ps.length c] 34 (0, 0)) := by rw [hw1, hbe]; exact heap_alloc_new w _
  have HW := Lib.hid hw1
  have HBE := Lib.hid hbe
  clear hw1 hbe
  obtain ⟨w2, hw2⟩ : ∃ v, v = w1.alloc (.cells #[.int .i64 0] 3) := ⟨_, rfl⟩
  obtain ⟨G, hGe⟩ : ∃ v, v = w1.heap.size := ⟨_, rfl⟩
  have hb2 : Below w1.heap.size w1 w2 := by rw [hw2]; exact al _ _
  have hc2 : Cell G w2 0 := by rw [hw2, hGe]; exact heap_alloc_new w1 _
  have hg2 : G < w2.heap.size := heap_lt hc2
  have hgw : w.heap.size ≤ G := by rw [hGe]; exact hb1.size
  have a2 : w2.heap[b]? = some (.cells #[.string e.op, .string e.nm, .string e.fo, .slice A e.ps.length c] 34 (0, 0)) := (hb2.block b (heap_lt a1)).trans a1
  obtain ⟨d0, d1, d2, d3⟩ := four_at a2
  have HB := Lib.hid (hb1.trans (hb2.mono hb1.size))
  have hcall := walk_any stD (fun w s => Cell G w ((s : Int))) (fun _ => True) (fun _ _ _ _ _ _ _ => trivial) (fun g => g = G) w.heap.size 40 #[.pointer (some ⟨G, 0, none⟩)] (enters_of Tryd.func40 (by kernel_rfl) rfl) (fun g h => by rw [h]; exact hgw)
    (fun _ _ _ h hb => h.later hb) (deep_asks w.heap.size G) e.size e _ 1 0 w2 (Nat.le_refl _) (hL.imp fun _ _ h => h.below HB.out) HB.out.size (fun g h => by rw [h]; exact hg2) (by omega) trivial (show Cell G w2 (((0 : Nat) : Int)) from by simpa [wrap, wrap64] using hc2)
  rw [show ((1 : Nat) : Int) = 1 from rfl] at hcall
  rw [walkE_D e 0 0, show max 0 (0 + e.deep) = e.deep from by omega] at hcall
  dsimp only at hcall
  generalize e.deep = n at *
  have HW2 := Lib.hid hw2
  have HGE := Lib.hid hGe
  have HGW := Lib.hid hgw
  have hmf : ∀ (fn : Fn) (first cap : Array Value) (w : World), (Instr.makeFunc fn first cap).run Tryd.prog w = .ok (.func fn first cap) w := fun _ _ _ _ => rfl
  clear hw2 hGe hgw hg2 hc2 a2 a1 hb1 hb2 hL
  go_enter Tryd.func17, Tryd.ntmps17
  go_upto_region 1 with fail
  try rw [← HW.out]
  try rw [← HBE.out]
  clear HW
  go_upto_region 2 with fail
  try rw [← HW2.out]
  try rw [← HGE.out]
  clear HW2
  go_wp2_with fail
  (with_reducible refine hcall.mono ?_)
  clear hcall d0 d1 d2 d3
  rintro r w3 ⟨rfl, hc, ht⟩
  have HX := Lib.hid (HB.out.trans (ht.below HB.out.size fun k h => by rw [h]; exact HGW.out))
  have hc3 := (Cell.at0 hc).1
  clear hc ht
  go_wp2_with fail
  go_ret
  exact ⟨rfl, HX.out⟩
set_option maxRecDepth 100000 in
set_option maxHeartbeats 3200000 in
theorem cSize_any (e : Ex) (q : List Value) (w : World) (hL : Lay w w.heap.size e q) (hd : e.deep ≤ 1000000000) : Calls Tryd.prog 19 #[.agg q.toArray] w fun r w' => r = .returned (.int .i64 (wrap e.size)) ∧ Below w.heap.size w w' := by
  obtain ⟨A, c, rfl, _, _⟩ := hL.open
  obtain ⟨w1, hw1⟩ : ∃ v, v = w.alloc (.cells #[.string e.op, .string e.nm, .string e.fo, .slice A e.ps.length c] 34) := ⟨_, rfl⟩
  obtain ⟨b, hbe⟩ : ∃ v, v = w.heap.size := ⟨_, rfl⟩
  have hb1 : Below w.heap.size w w1 := by rw [hw1]; exact al _ _
  have a1 : w1.heap[b]? = some (.cells #[.string e.op, .string e.nm, .string e.fo, .slice A e.ps.length c] 34 (0, 0)) := by rw [hw1, hbe]; exact heap_alloc_new w _
  have HW := Lib.hid hw1
  have HBE := Lib.hid hbe
  clear hw1 hbe
  obtain ⟨w2, hw2⟩ : ∃ v, v = w1.alloc (.cells #[.int .i64 0] 3) := ⟨_, rfl⟩
  obtain ⟨G, hGe⟩ : ∃ v, v = w1.heap.size := ⟨_, rfl⟩
  have hb2 : Below w1.heap.size w1 w2 := by rw [hw2]; exact al _ _
  have hc2 : Cell G w2 0 := by rw [hw2, hGe]; exact heap_alloc_new w1 _
  have hg2 : G < w2.heap.size := heap_lt hc2
  have hgw : w.heap.size ≤ G := by rw [hGe]; exact hb1.size
  have a2 : w2.heap[b]? = some (.cells #[.string e.op, .string e.nm, .string e.fo, .slice A e.ps.length c] 34 (0, 0)) := (hb2.block b (heap_lt a1)).trans a1
  obtain ⟨d0, d1, d2, d3⟩ := four_at a2
  have HB := Lib.hid (hb1.trans (hb2.mono hb1.size))
  have hcall := walk_any stS (fun w s => Cell G w (wrap s)) (fun _ => True) (fun _ _ _ _ _ _ _ => trivial) (fun g => g = G) w.heap.size 41 #[.pointer (some ⟨G, 0, none⟩)] (enters_of Tryd.func41 (by kernel_rfl) rfl) (fun g h => by rw [h]; exact hgw)
    (fun _ _ _ h hb => h.later hb) (size_asks w.heap.size G) e.size e _ 1 0 w2 (Nat.le_refl _) (hL.imp fun _ _ h => h.below HB.out) HB.out.size (fun g h => by rw [h]; exact hg2) (by omega) trivial (show Cell G w2 (wrap 0) from by simpa [wrap, wrap64] using hc2)
  rw [show ((1 : Nat) : Int) = 1 from rfl] at hcall
  rw [walkE_S e 1 0, Nat.zero_add] at hcall
  dsimp only at hcall
  generalize wrap e.size = n at *
  have HW2 := Lib.hid hw2
  have HGE := Lib.hid hGe
  have HGW := Lib.hid hgw
  have hmf : ∀ (fn : Fn) (first cap : Array Value) (w : World), (Instr.makeFunc fn first cap).run Tryd.prog w = .ok (.func fn first cap) w := fun _ _ _ _ => rfl
  clear hw2 hGe hgw hg2 hc2 a2 a1 hb1 hb2 hL
  go_enter Tryd.func19, Tryd.ntmps19
  go_upto_region 1 with fail
  try rw [← HW.out]
  try rw [← HBE.out]
  clear HW
  go_upto_region 2 with fail
  try rw [← HW2.out]
  try rw [← HGE.out]
  clear HW2
  go_wp2_with fail
  (with_reducible refine hcall.mono ?_)
  clear hcall d0 d1 d2 d3
  rintro r w3 ⟨rfl, hc, ht⟩
  have HX := Lib.hid (HB.out.trans (ht.below HB.out.size fun k h => by rw [h]; exact HGW.out))
  have hc3 := (Cell.at0 hc).1
  clear hc ht
  go_wp2_with fail
  go_ret
  exact ⟨rfl, HX.out⟩
set_option maxRecDepth 100000 in
set_option maxHeartbeats 3200000 in
theorem fits_any (e : Ex) (q : List Value) (w : World) (hL : Lay w w.heap.size e q) (hd : e.deep ≤ 1000000000) : Calls Tryd.prog 60 #[.agg q.toArray] w fun r w' => r = .returned (.bool (fitsX e)) ∧ Below w.heap.size w w' := by
  obtain ⟨A, c, rfl, _, _⟩ := hL.open
  obtain ⟨w1, hw1⟩ : ∃ v, v = w.alloc (.cells #[.string e.op, .string e.nm, .string e.fo, .slice A e.ps.length c] 34) := ⟨_, rfl⟩
  obtain ⟨b, hbe⟩ : ∃ v, v = w.heap.size := ⟨_, rfl⟩
  have hb1 : Below w.heap.size w w1 := by rw [hw1]; exact al _ _
  have a1 : w1.heap[b]? = some (.cells #[.string e.op, .string e.nm, .string e.fo, .slice A e.ps.length c] 34 (0, 0)) := by rw [hw1, hbe]; exact heap_alloc_new w _
  have HW := Lib.hid hw1
  have HBE := Lib.hid hbe
  clear hw1 hbe
  obtain ⟨w2, hw2⟩ : ∃ v, v = w1.alloc (.cells #[.int .i64 0] 3) := ⟨_, rfl⟩
  obtain ⟨G, hGe⟩ : ∃ v, v = w1.heap.size := ⟨_, rfl⟩
  have hb2 : Below w1.heap.size w1 w2 := by rw [hw2]; exact al _ _
  have hc2 : Cell G w2 0 := by rw [hw2, hGe]; exact heap_alloc_new w1 _
  have hg2 : G < w2.heap.size := heap_lt hc2
  have hgw : w.heap.size ≤ G := by rw [hGe]; exact hb1.size
  have a2 : w2.heap[b]? = some (.cells #[.string e.op, .string e.nm, .string e.fo, .slice A e.ps.length c] 34 (0, 0)) := (hb2.block b (heap_lt a1)).trans a1
  obtain ⟨d0, d1, d2, d3⟩ := four_at a2
  have HB := Lib.hid (hb1.trans (hb2.mono hb1.size))
  have hcall := walk_any stF (fun w s => Cell G w (wrap s)) (fun _ => True) (fun _ _ _ _ _ _ _ => trivial) (fun g => g = G) w.heap.size 72 #[.pointer (some ⟨G, 0, none⟩)] (enters_of Tryd.func72 (by kernel_rfl) rfl) (fun g h => by rw [h]; exact hgw)
    (fun _ _ _ h hb => h.later hb) (fits_asks w.heap.size G) e.size e _ 1 0 w2 (Nat.le_refl _) (hL.imp fun _ _ h => h.below HB.out) HB.out.size (fun g h => by rw [h]; exact hg2) (by omega) trivial (show Cell G w2 (wrap 0) from by simpa [wrap, wrap64] using hc2)
  rw [show ((1 : Nat) : Int) = 1 from rfl] at hcall
  rw [walkE_F e] at hcall
  generalize fitsX e = n at *
  have HW2 := Lib.hid hw2
  have HGE := Lib.hid hGe
  have HGW := Lib.hid hgw
  have hmf : ∀ (fn : Fn) (first cap : Array Value) (w : World), (Instr.makeFunc fn first cap).run Tryd.prog w = .ok (.func fn first cap) w := fun _ _ _ _ => rfl
  clear hw2 hGe hgw hg2 hc2 a2 a1 hb1 hb2 hL
  go_enter Tryd.func60, Tryd.ntmps60
  go_upto_region 1 with fail
  try rw [← HW.out]
  try rw [← HBE.out]
  clear HW
  go_upto_region 2 with fail
  try rw [← HW2.out]
  try rw [← HGE.out]
  clear HW2
  go_wp2_with fail
  (with_reducible refine hcall.mono ?_)
  clear hcall d0 d1 d2 d3
  rintro r w3 ⟨rfl, hc, ht⟩
  have HX := Lib.hid (HB.out.trans (ht.below HB.out.size fun k h => by rw [h]; exact HGW.out))
  clear hc ht
  go_wp2_with fail
  go_ret
  exact ⟨rfl, HX.out⟩
end Go.Proofs.YtkmnbdomikpakaaDoor.RuleFold
