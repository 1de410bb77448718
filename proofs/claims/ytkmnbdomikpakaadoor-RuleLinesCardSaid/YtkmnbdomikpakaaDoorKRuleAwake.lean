/- RuleSpec, RuleAwake. -/
import Derived.Test.YtkmnbdomikpakaaDoorKRuleAlike
import Derived.Test.YtkmnbdomikpakaaDoorKRuleCan
import Derived.Test.YtkmnbdomikpakaaDoorKRuleChkC
import Derived.Test.YtkmnbdomikpakaaDoorKRuleFind
namespace Go.Proofs.YtkmnbdomikpakaaDoor.RuleSpec
open Go.RowKit Base KeyPlain TuplePlain TupleRef RulePlain RuleMem RuleRec RuleFew RuleFind RuleCan RuleGl RuleChkC

def Law (W : World) (e : Ending) (w' : World) : Prop := e = .returned (.bool true) ∧ Below W.heap.size W w'
/-- rules of a text, handed out -/
def ReadYes (s : ByteArray) (w : World) (e : Ending) (w' : World) : Prop := ∃ l A c, can l = true ∧ show_ l = bl s ∧ checkC l = 0 ∧ e = .returned (.tuple #[.slice A l.length c, .int .i64 0, .int .i64 0]) ∧ LayL w' w'.heap.size A l ∧ Below w.heap.size w w'
/-- the lines are right, and yet the rules may not be -/
def ReadOff (s : ByteArray) (w : World) (e : Ending) (w' : World) : Prop := ∃ l, can l = true ∧ show_ l = bl s ∧ checkC l ≠ 0 ∧ e = .returned (.tuple #[.slice none 0 0, .int .i64 0, .int .i64 (checkC l)]) ∧ Below w.heap.size w w'
/-- a line is wrong -/
def ReadNo (s : ByteArray) (w : World) (e : Ending) (w' : World) : Prop := ∃ l rest, can l = true ∧ bl s = show_ l ++ rest ∧ rest ≠ [] ∧ NoLine l.isEmpty rest ∧ e = .returned (.tuple #[.slice none 0 0, .int .i64 (((lines l).length + 1 : Nat) : Int), .int .i64 120]) ∧ Below w.heap.size w w'
structure Specs : Prop where
  cDeep : ∀ (e : Ex) (q : List Value) (w : World), e.short 30 = true → Lay w w.heap.size e q → Calls Tryd.prog 17 #[.agg q.toArray] w fun r w' => r = .returned (.int .i64 (e.deep : Int)) ∧ Below w.heap.size w w'
  cSize : ∀ (e : Ex) (q : List Value) (w : World), e.short 30 = true → Lay w w.heap.size e q → Calls Tryd.prog 19 #[.agg q.toArray] w fun r w' => r = .returned (.int .i64 (wrap e.size)) ∧ Below w.heap.size w w'
  cFind : ∀ (A : Option Addr) (c : Nat) (l : List Kd) (kind rel : ByteArray) (w : World), few l = true → kind.size ≤ 1000 → rel.size ≤ 1000 → LayL w w.heap.size A l → Calls Tryd.prog 14 #[.slice A l.length c, .string kind, .string rel] w (FindPost l kind rel w)
  cCheck : ∀ (A : Option Addr) (c : Nat) (l : List Kd) (w : World), few l = true → Gl w → LayL w w.heap.size A l → Calls Tryd.prog 21 #[.slice A l.length c] w fun r w' => r = .returned (.int .i64 (checkC l)) ∧ Below w.heap.size w w'
  cShow : ∀ (A : Option Addr) (c : Nat) (l : List Kd) (w : World), few l = true → Gl w → LayL w w.heap.size A l → Calls Tryd.prog 23 #[.slice A l.length c] w fun r w' => r = .returned (.tuple #[.string ⟨(if checkC l = 0 then show_ l else []).toArray⟩, .int .i64 (checkC l)]) ∧ Below w.heap.size w w'
  cBut : ∀ (A : Option Addr) (c : Nat) (l : List Kd) (w : World), few l = true → LayL w w.heap.size A l → Calls Tryd.prog 22 #[.slice A l.length c] w fun r w' => r = .returned (.bool (butK l)) ∧ Below w.heap.size w w'
  cRead : ∀ (s : ByteArray) (w : World), s.size ≤ 1000000000 → Gl w → Calls Tryd.prog 10 #[.string s] w fun e w' => ReadYes s w e w' ∨ ReadOff s w e w' ∨ ReadNo s w e w'
/-- of the text of rules that may be: these -/
theorem read_show (X : Specs) (l : List Kd) (s : ByteArray) (w : World) (hs : bl s = show_ l) (hl : can l = true) (hc : checkC l = 0) (hz : s.size ≤ 1000000000) (hG : Gl w) :
    Calls Tryd.prog 10 #[.string s] w fun e w' => ∃ A c, e = .returned (.tuple #[.slice A l.length c, .int .i64 0, .int .i64 0]) ∧ LayL w' w'.heap.size A l ∧ Below w.heap.size w w' := by
  refine (X.cRead s w hz hG).mono ?_
  rintro e w' (⟨m, A, c, h1, h2, h3, rfl, h5, h6⟩ | ⟨m, h1, h2, h3, rfl, h5⟩ | ⟨m, rest, h1, h2, h3, h4, rfl, h5⟩)
  · obtain rfl := show_one h1 hl (by rw [h2, hs])
    exact ⟨A, c, rfl, h5, h6⟩
  · obtain rfl := show_one h1 hl (by rw [h2, hs])
    exact absurd hc h3
  · rw [hs] at h2
    exact absurd h4 (no_rest hl h1 h2 h3)
/-! the chapter's example -/
def xThis : Ex := .mk kThis ⟨#[]⟩ ⟨#[]⟩ []
def xOwner : Ex := .mk kRel ⟨#[111, 119, 110, 101, 114]⟩ ⟨#[]⟩ []
def xFrom : Ex := .mk kFrom ⟨#[118, 105, 101, 119, 101, 114]⟩ ⟨#[112, 97, 114, 101, 110, 116]⟩ []
def xOr : Ex := .mk kOr ⟨#[]⟩ ⟨#[]⟩ [xThis, xOwner, xFrom]
def xl : List Kd := [⟨⟨#[100, 111, 99]⟩, [⟨⟨#[111, 119, 110, 101, 114]⟩, xThis⟩, ⟨⟨#[118, 105, 101, 119, 101, 114]⟩, xOr⟩, ⟨⟨#[112, 97, 114, 101, 110, 116]⟩, xThis⟩]⟩]
theorem xl_few : few xl = true := by decide +kernel
theorem xl_check : check xl = 0 := by decide +kernel
theorem xl_checkC : checkC xl = 0 := (checkC_zero xl).2 xl_check
theorem xl_can : can xl = true := by decide +kernel
theorem xl_but : butK xl = false := by decide +kernel
theorem xOr_short : xOr.short 30 = true := by decide +kernel
theorem xl_find : find xl ⟨#[100, 111, 99]⟩ ⟨#[118, 105, 101, 119, 101, 114]⟩ = some xOr := by decide +kernel
abbrev xs : ByteArray := ⟨#[107, 105, 110, 100, 32, 100, 111, 99, 10, 111, 119, 110, 101, 114, 32, 61, 32, 116, 104, 105, 115, 10, 118, 105, 101, 119, 101, 114, 32, 61, 32, 40, 111, 114, 32, 116, 104, 105, 115, 32, 111, 119, 110, 101, 114, 32, 40, 102, 114, 111, 109, 32, 112, 97, 114, 101, 110, 116, 32, 118, 105, 101, 119, 101, 114, 41, 41, 10, 112, 97, 114, 101, 110, 116, 32, 61, 32, 116, 104, 105, 115, 10]⟩
theorem xl_show : show_ xl = bl xs := by decide +kernel
end Go.Proofs.YtkmnbdomikpakaaDoor.RuleSpec
namespace Go.Proofs.YtkmnbdomikpakaaDoor.RuleAwake
open Go.RowKit Base KeyPlain TuplePlain TupleRef RulePlain RuleMem RuleRec RuleFew RuleFind RuleCan RuleSpec RuleGl

theorem sees_block {w : World} {B g : Nat} {cs : Array Value} {t : TypeId} (h : w.heap[g]? = some (.cells cs t (0, 0))) (hg : g < B) (o n : Nat) : Sees w B ⟨g, o, none⟩ ((cs.toList.drop o).take n) := by
  refine ⟨hg, fun j v hv => ?_⟩
  have e2 : (⟨g, o, none⟩ : Addr).add j = ⟨g, o + j, none⟩ := by unfold Addr.add; split <;> simp_all
  rw [e2]
  rw [List.getElem?_take] at hv
  split at hv
  · rw [List.getElem?_drop, Array.getElem?_toList] at hv
    simp only [World.cell?, h]
    simpa using hv
  · cases hv
theorem slof_block {α : Type} {w : World} {B g n : Nat} {cs : Array Value} {t : TypeId} {P : α → List Value → Prop} {xs : List α} (h : w.heap[g]? = some (.cells cs t (0, 0))) (hg : g < B) (hp : ∀ i (hi : i < xs.length), P xs[i] ((cs.toList.drop (i * n)).take n)) : SlOf w B n P (some ⟨g, 0, none⟩) xs := by
  refine ⟨fun i => (cs.toList.drop (i * n)).take n, fun i hi => ⟨⟨⟨g, 0, none⟩, rfl, ?_⟩, hp i hi⟩⟩
  rw [add_zero_block]
  exact sees_block h hg _ _
theorem lay_leaf {w : World} {B : Nat} {op nm fo : ByteArray} : Lay w B (.mk op nm fo []) [.string op, .string nm, .string fo, .slice none 0 0] :=
  Lay.of (ps := []) ⟨fun _ => [], fun i hi => absurd hi (by simp)⟩ (by simp [maxLen])
set_option maxHeartbeats 3200000 in
theorem refSameW_any (e : Ex) (q : List Value) (e' : Ex) (q' : List Value) (w : World) (hL : Lay w w.heap.size e q) (hL' : Lay w w.heap.size e' q') :
    Calls Tryd.prog 16 #[.agg q.toArray, .agg q'.toArray] w fun r w' => r = .returned (.bool (Ex.beq e e')) ∧ Below w.heap.size w w' := by
  obtain ⟨A, c, rfl, _⟩ := id hL.open
  obtain ⟨A', c', rfl, _⟩ := id hL'.open
  obtain ⟨w1, hw1⟩ : ∃ v, v = w.alloc (.cells #[.string e.op, .string e.nm, .string e.fo, .slice A e.ps.length c] 34) := ⟨_, rfl⟩
  obtain ⟨w2, hw2⟩ : ∃ v, v = w1.alloc (.cells #[.string e'.op, .string e'.nm, .string e'.fo, .slice A' e'.ps.length c'] 34) := ⟨_, rfl⟩
  have b1 : Below w.heap.size w w1 := by rw [hw1]; exact al _ _
  have b2 : Below w1.heap.size w1 w2 := by rw [hw2]; exact al _ _
  have hb2 := Below.step b1 b2
  have hcall := refSame_any e.size e _ e' _ w2 (Nat.le_refl _) (hL.later hb2) (hL'.later hb2)
  have HB2 := Lib.hid hb2
  have HW1 := Lib.hid hw1
  have HW2 := Lib.hid hw2
  clear hL hL' b1 b2 hw1 hw2 hb2
  go_enter Tryd.func16, Tryd.ntmps16
  go_wp2_with fail
  rw [← HW1.out, ← HW2.out]
  (with_reducible refine hcall.mono ?_)
  clear hcall
  rintro r w3 ⟨rfl, hb⟩
  have HB := Lib.hid (Below.step HB2.out hb)
  clear hb
  go_wp2_with fail
  go_ret
  exact ⟨rfl, HB.out⟩
set_option maxRecDepth 100000 in
set_option maxHeartbeats 25600000 in
theorem awake_any (X : Specs) (W : World) (hG : Gl W) : Calls Tryd.prog 9 #[] W (Law W) := by
  obtain ⟨b, hbe⟩ : ∃ v, v = W.heap.size := ⟨_, rfl⟩
  obtain ⟨w1, hw1⟩ : ∃ v, v = W.alloc (.cells #[.string ⟨#[116, 104, 105, 115]⟩, .string ⟨#[]⟩, .string ⟨#[]⟩, .slice none 0 0, .string ⟨#[114, 101, 108]⟩, .string ⟨#[111, 119, 110, 101, 114]⟩, .string ⟨#[]⟩, .slice none 0 0, .string ⟨#[102, 114, 111, 109]⟩, .string ⟨#[118, 105, 101, 119, 101, 114]⟩, .string ⟨#[112, 97, 114, 101, 110, 116]⟩, .slice none 0 0] 34) := ⟨_, rfl⟩
  obtain ⟨w2, hw2⟩ : ∃ v, v = w1.alloc (.cells #[.string ⟨#[111, 114]⟩, .string ⟨#[]⟩, .string ⟨#[]⟩, .slice (some ⟨b, 0, none⟩) 3 3] 34) := ⟨_, rfl⟩
  obtain ⟨w3, hw3⟩ : ∃ v, v = w2.alloc (.cells #[.string ⟨#[111, 119, 110, 101, 114]⟩, .string ⟨#[116, 104, 105, 115]⟩, .string ⟨#[]⟩, .string ⟨#[]⟩, .slice none 0 0, .string ⟨#[118, 105, 101, 119, 101, 114]⟩, .string ⟨#[111, 114]⟩, .string ⟨#[]⟩, .string ⟨#[]⟩, .slice (some ⟨b, 0, none⟩) 3 3, .string ⟨#[112, 97, 114, 101, 110, 116]⟩, .string ⟨#[116, 104, 105, 115]⟩, .string ⟨#[]⟩, .string ⟨#[]⟩, .slice none 0 0] 47) := ⟨_, rfl⟩
  obtain ⟨w4, hw4⟩ : ∃ v, v = w3.alloc (.cells #[.string ⟨#[100, 111, 99]⟩, .slice (some ⟨b + 1 + 1, 0, none⟩) 3 3] 42) := ⟨_, rfl⟩
  have s1 : w1.heap.size = b + 1 := by rw [hw1, hbe]; simp
  have s2 : w2.heap.size = b + 1 + 1 := by rw [hw2]; simp [s1]
  have s3 : w3.heap.size = b + 1 + 1 + 1 := by rw [hw3]; simp [s2]
  have s4 : w4.heap.size = b + 1 + 1 + 1 + 1 := by rw [hw4]; simp [s3]
  have b1 : Below W.heap.size W w1 := by rw [hw1]; exact al _ _
  have b12 : Below w1.heap.size w1 w2 := by rw [hw2]; exact al _ _
  have b23 : Below w2.heap.size w2 w3 := by rw [hw3]; exact al _ _
  have b34 : Below w3.heap.size w3 w4 := by rw [hw4]; exact al _ _
  have a0 : w4.heap[b]? = some (.cells #[.string ⟨#[116, 104, 105, 115]⟩, .string ⟨#[]⟩, .string ⟨#[]⟩, .slice none 0 0, .string ⟨#[114, 101, 108]⟩, .string ⟨#[111, 119, 110, 101, 114]⟩, .string ⟨#[]⟩, .slice none 0 0, .string ⟨#[102, 114, 111, 109]⟩, .string ⟨#[118, 105, 101, 119, 101, 114]⟩, .string ⟨#[112, 97, 114, 101, 110, 116]⟩, .slice none 0 0] 34 (0, 0)) := (b34.block b (by omega)).trans ((b23.block b (by omega)).trans ((b12.block b (by omega)).trans (by rw [hw1, hbe]; exact heap_alloc_new W _)))
  have a1 : w4.heap[b + 1]? = some (.cells #[.string ⟨#[111, 114]⟩, .string ⟨#[]⟩, .string ⟨#[]⟩, .slice (some ⟨b, 0, none⟩) 3 3] 34 (0, 0)) := (b34.block _ (by omega)).trans ((b23.block _ (by omega)).trans (by rw [hw2, ← s1]; exact heap_alloc_new w1 _))
  have a2 : w4.heap[b + 1 + 1]? = some (.cells #[.string ⟨#[111, 119, 110, 101, 114]⟩, .string ⟨#[116, 104, 105, 115]⟩, .string ⟨#[]⟩, .string ⟨#[]⟩, .slice none 0 0, .string ⟨#[118, 105, 101, 119, 101, 114]⟩, .string ⟨#[111, 114]⟩, .string ⟨#[]⟩, .string ⟨#[]⟩, .slice (some ⟨b, 0, none⟩) 3 3, .string ⟨#[112, 97, 114, 101, 110, 116]⟩, .string ⟨#[116, 104, 105, 115]⟩, .string ⟨#[]⟩, .string ⟨#[]⟩, .slice none 0 0] 47 (0, 0)) := (b34.block _ (by omega)).trans (by rw [hw3, ← s2]; exact heap_alloc_new w2 _)
  have a3 : w4.heap[b + 1 + 1 + 1]? = some (.cells #[.string ⟨#[100, 111, 99]⟩, .slice (some ⟨b + 1 + 1, 0, none⟩) 3 3] 42 (0, 0)) := by rw [hw4, ← s3]; exact heap_alloc_new w3 _
  have hO : SlOf w4 w4.heap.size 4 (Lay w4 w4.heap.size) (some ⟨b, 0, none⟩) [xThis, xOwner, xFrom] := slof_block a0 (by omega) fun i hi => by
    match i, hi with
    | 0, _ => exact lay_leaf
    | 1, _ => exact lay_leaf
    | 2, _ => exact lay_leaf
  have hOr : Lay w4 w4.heap.size xOr [.string ⟨#[111, 114]⟩, .string ⟨#[]⟩, .string ⟨#[]⟩, .slice (some ⟨b, 0, none⟩) 3 3] := Lay.of hO (by simp [maxLen])
  have hR : SlOf w4 w4.heap.size 5 (LayR w4 w4.heap.size) (some ⟨b + 1 + 1, 0, none⟩) [⟨⟨#[111, 119, 110, 101, 114]⟩, xThis⟩, ⟨⟨#[118, 105, 101, 119, 101, 114]⟩, xOr⟩, ⟨⟨#[112, 97, 114, 101, 110, 116]⟩, xThis⟩] := slof_block a2 (by omega) fun i hi => by
    match i, hi with
    | 0, _ => exact ⟨_, lay_leaf, rfl⟩
    | 1, _ => exact ⟨_, hOr, rfl⟩
    | 2, _ => exact ⟨_, lay_leaf, rfl⟩
  have hL : LayL w4 w4.heap.size (some ⟨b + 1 + 1 + 1, 0, none⟩) xl := slof_block a3 (by omega) fun i hi => by
    match i, hi with
    | 0, _ => exact ⟨_, 3, rfl, hR, by show 3 ≤ maxLen; decide⟩
  have bW : Below W.heap.size W w4 := Below.step (Below.step (Below.step b1 b12) b23) b34
  have HBE := Lib.hid hbe
  have HW1 := Lib.hid hw1
  have HW2 := Lib.hid hw2
  have HW3 := Lib.hid hw3
  have HW4 := Lib.hid hw4
  have HBW := Lib.hid bW
  have HGL := Lib.hid (fun (w' : World) (hw' : Below w4.heap.size w4 w') => hG.later (Below.step bW hw'))
  have HL := Lib.hid (fun (w' : World) (hw' : Below w4.heap.size w4 w') => hL.later hw')
  have HOR := Lib.hid (fun (w' : World) (hw' : Below w4.heap.size w4 w') => hOr.later hw')
  have HC := Lib.hid (fun (w' : World) (hw' : Below w4.heap.size w4 w') => four_at ((hw'.block (b + 1) (by omega)).trans a1))
  have hcall := X.cShow _ 1 xl w4 xl_few (HGL.out w4 (Below.refl _ _)) hL
  rw [xl_checkC, if_pos rfl, xl_show, show (⟨(bl xs).toArray⟩ : ByteArray) = xs from rfl] at hcall
  simp only [show xl.length = 1 from rfl] at hcall
  clear hG hbe hw1 hw2 hw3 hw4 s1 s2 s3 b1 b12 b23 b34 a0 a1 a2 a3 hO hOr hR hL bW s4
  unfold Law
  obtain ⟨sx, hsx⟩ : ∃ v : ByteArray, v = xs := ⟨_, rfl⟩
  have hss : (sx.toList == [107, 105, 110, 100, 32, 100, 111, 99, 10, 111, 119, 110, 101, 114, 32, 61, 32, 116, 104, 105, 115, 10, 118, 105, 101, 119, 101, 114, 32, 61, 32, 40, 111, 114, 32, 116, 104, 105, 115, 32, 111, 119, 110, 101, 114, 32, 40, 102, 114, 111, 109, 32, 112, 97, 114, 101, 110, 116, 32, 118, 105, 101, 119, 101, 114, 41, 41, 10, 112, 97, 114, 101, 110, 116, 32, 61, 32, 116, 104, 105, 115, 10]) = true := by rw [hsx]; decide +kernel
  rw [← hsx] at hcall
  have HSX := Lib.hid hsx
  clear hsx
  go_enter Tryd.func9, Tryd.ntmps9
  go_upto_region 3 with fail
  try rw [← HW1.out]
  try rw [← HBE.out]
  try rw [← HW2.out]
  try rw [← HW3.out]
  try rw [← HW4.out]
  clear HW1 HW2 HW3 HW4
  go_wp2_with fail
  (with_reducible refine hcall.mono ?_)
  clear hcall
  rintro e w5 ⟨rfl, b5⟩
  have HB5 := Lib.hid b5
  clear b5
  have hcall := read_show X xl sx w5 (by rw [HSX.out, xl_show]) xl_can xl_checkC (by rw [HSX.out]; decide) (HGL.out w5 HB5.out)
  simp only [show xl.length = 1 from rfl] at hcall
  go_wp2_with fail
  (with_reducible refine hcall.mono ?_)
  clear hcall
  rintro e w6 ⟨Am, cm, rfl, hLm, b6⟩
  have HB6 := Lib.hid (Below.step HB5.out b6)
  have HLM := Lib.hid hLm
  clear hLm b6
  have hcall := X.cFind _ 1 xl ⟨#[100, 111, 99]⟩ ⟨#[118, 105, 101, 119, 101, 114]⟩ w6 xl_few (by decide) (by decide) (HL.out w6 HB6.out)
  unfold FindPost at hcall
  rw [xl_find] at hcall
  simp only [Option.getD_some, Option.isSome_some] at hcall
  simp only [show xl.length = 1 from rfl] at hcall
  go_wp2_with fail
  (with_reducible refine hcall.mono ?_)
  clear hcall
  rintro e w7 ⟨q, hq, rfl, b7⟩
  obtain ⟨Aq, cq, rfl, _⟩ := id hq.open
  obtain ⟨w8, hw8⟩ : ∃ v, v = w7.alloc (.cells #[.string xOr.op, .string xOr.nm, .string xOr.fo, .slice Aq xOr.ps.length cq] 34) := ⟨_, rfl⟩
  obtain ⟨g8, hg8⟩ : ∃ v, v = w7.heap.size := ⟨_, rfl⟩
  have b78 : Below w7.heap.size w7 w8 := by rw [hw8]; exact al _ _
  have a8 : w8.heap[g8]? = some (.cells #[.string xOr.op, .string xOr.nm, .string xOr.fo, .slice Aq xOr.ps.length cq] 34 (0, 0)) := by rw [hw8, hg8]; exact heap_alloc_new w7 _
  have HQ := Lib.hid (fun (w' : World) (hw' : Below w8.heap.size w8 w') => hq.later (Below.step b78 hw'))
  have HB8 := Lib.hid (Below.step HB6.out (Below.step b7 b78))
  have HLM8 := Lib.hid (HLM.out.later (Below.step b7 b78))
  have hg8l : g8 < w8.heap.size := (Array.getElem?_eq_some_iff.1 a8).1
  have HC8 := Lib.hid (fun (w' : World) (hw' : Below w8.heap.size w8 w') => four_at ((hw'.block g8 hg8l).trans a8))
  have HW8 := Lib.hid hw8
  have HG8 := Lib.hid hg8
  clear hq b7 hw8 hg8 b78 a8 hg8l HLM
  go_upto_region 6 with fail
  try rw [← HW8.out]
  try rw [← HG8.out]
  clear HW8
  have hcall := RuleAlike.refAlike_any _ 1 xl Am cm xl w8 (HL.out w8 HB8.out) HLM8.out (by simp [xl, maxLen]) (by simp [xl, maxLen])
  rw [decide_eq_true rfl] at hcall
  simp only [show xl.length = 1 from rfl] at hcall
  go_wp2_with fail
  (with_reducible refine hcall.mono ?_)
  clear hcall hss
  rintro e w9 ⟨rfl, b9⟩
  have HB9 := Lib.hid b9
  clear b9
  obtain ⟨d0, d1, d2, d3⟩ := HC.out w9 (Below.step HB8.out HB9.out)
  obtain ⟨e0, e1, e2, e3⟩ := HC8.out w9 HB9.out
  have hcall := refSameW_any xOr _ xOr _ w9 (HQ.out w9 HB9.out) (HOR.out w9 (Below.step HB8.out HB9.out))
  rw [(Ex.beq_iff xOr xOr).2 rfl] at hcall
  go_wp2_with fail
  (with_reducible refine hcall.mono ?_)
  clear hcall d0 d1 d2 d3 e0 e1 e2 e3
  rintro e wa ⟨rfl, ba⟩
  have HBA := Lib.hid (Below.step (Below.step HB8.out HB9.out) ba)
  clear ba
  obtain ⟨d0, d1, d2, d3⟩ := HC.out wa HBA.out
  have hcall := X.cDeep xOr _ wa xOr_short (HOR.out wa HBA.out)
  rw [show xOr.deep = 2 from rfl] at hcall
  go_wp2_with fail
  (with_reducible refine hcall.mono ?_)
  clear hcall d0 d1 d2 d3
  rintro e wb ⟨rfl, bq⟩
  have HBB := Lib.hid (Below.step HBA.out bq)
  clear bq
  obtain ⟨d0, d1, d2, d3⟩ := HC.out wb HBB.out
  have hcall := X.cSize xOr _ wb xOr_short (HOR.out wb HBB.out)
  rw [show wrap xOr.size = 4 from by decide +kernel] at hcall
  go_wp2_with fail
  (with_reducible refine hcall.mono ?_)
  clear hcall d0 d1 d2 d3
  rintro e wc ⟨rfl, bq⟩
  have HBC := Lib.hid (Below.step HBB.out bq)
  clear bq
  have hcall := X.cBut _ 1 xl wc xl_few (HL.out wc HBC.out)
  rw [xl_but] at hcall
  simp only [show xl.length = 1 from rfl] at hcall
  go_wp2_with fail
  (with_reducible refine hcall.mono ?_)
  clear hcall
  rintro e wd ⟨rfl, bq⟩
  have HBD := Lib.hid (Below.step HBC.out bq)
  clear bq
  have hcall := X.cCheck _ 1 xl wd xl_few (HGL.out wd HBD.out) (HL.out wd HBD.out)
  rw [xl_checkC] at hcall
  simp only [show xl.length = 1 from rfl] at hcall
  go_wp2_with fail
  (with_reducible refine hcall.mono ?_)
  clear hcall
  rintro e we ⟨rfl, bq⟩
  have HBF := Lib.hid (Below.step HBD.out bq)
  clear bq
  go_wp2_with fail
  go_ret
  exact ⟨rfl, HBW.out.trans (HBF.out.mono HBW.out.size)⟩
end Go.Proofs.YtkmnbdomikpakaaDoor.RuleAwake
