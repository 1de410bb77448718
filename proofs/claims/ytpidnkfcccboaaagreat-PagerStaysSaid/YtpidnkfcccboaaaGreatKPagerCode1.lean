/- Contracts of the pager's small functions. -/
import Derived.Test.YtpidnkfcccboaaaGreatKFreePut
import Derived.Test.YtpidnkfcccboaaaGreatKInv4
import Derived.Test.YtpidnkfcccboaaaGreatKPagerFind
import Derived.Test.YtpidnkfcccboaaaGreatKPagerPlumb
import Derived.BigQuiet
namespace Go.Proofs.YtpidnkfcccboaaaGreat.PagerCode
open Go.RowKit Base PagePlain PageSmall FreePlain FreeMem SuperPlain SuperRefCheck PagerPlain PagerTold PagerNum PagerSpec SumOf DiskPlain DiskMem DiskSmall PagerMem Go.Maps

theorem pgc {w : World} {p d g mp : Nat} {P : PS} {A B C : Option Addr} {a b c : Nat} (h : At w p 59 (pcs P d g mp A B C a b c)) :
  (w.cell? ⟨p, 0, none⟩ = some (.pointer (some ⟨d, 0, none⟩)) ∧ w.cell? ⟨p, 1, none⟩ = some (.pointer (some ⟨g, 0, none⟩)) ∧ w.cell? ⟨p, 2, none⟩ = some (.int .i64 P.pg)) ∧
  (w.cell? ⟨p, 3, none⟩ = some (.int .i64 P.x.ep) ∧ w.cell? ⟨p, 4, none⟩ = some (.int .i64 P.x.root) ∧ w.cell? ⟨p, 5, none⟩ = some (.int .i64 P.x.free) ∧ w.cell? ⟨p, 6, none⟩ = some (.int .i64 P.x.pages)) ∧
  w.cell? ⟨p, 7, none⟩ = some (.slice A P.tf.length a) ∧ w.cell? ⟨p, 8, none⟩ = some (.slice B P.ch.length b) ∧ w.cell? ⟨p, 9, none⟩ = some (.slice C P.fl.length c) ∧ w.cell? ⟨p, 10, none⟩ = some (.map (some mp)) ∧ w.cell? ⟨p, 11, none⟩ = some (.int .i64 P.od) := by
 simp only [h.cell]
 exact ⟨⟨rfl, rfl, rfl⟩, ⟨rfl, rfl, rfl, rfl⟩, rfl, rfl, rfl, rfl, rfl⟩
theorem keyI {z : Int} (h : In z) : keyOf Tryz.prog 3 (.int .i64 z) = some (Lit.int .i64 z) := by
 unfold In at h
 exact keyOf_int_mk Tryz.underlying3 (by simp [Lit.wf, IntKind.min, IntKind.max, IntKind.signed, IntKind.bits]; omega)
set_option maxRecDepth 100000 in
theorem has_any (w : World) (p : Nat) (no pg : Int) (h : w.cell? ⟨p, 2, none⟩ = some (.int .i64 pg)) : Calls Tryz.prog 46 #[.pointer (some ⟨p, 0, none⟩), .int .i64 no] w fun e w' => e = .returned (.bool (decide (2 ≤ no ∧ no < pg))) ∧ w = w' := by
 by_cases h0 : 2 ≤ no
 ·by_cases h1 : no < pg
  ·go_enter Tryz.func46, Tryz.ntmps46
   go_wp2_with fail
   go_ret
   exact ⟨ret_bool (by simp [h0, h1]), rfl⟩
  ·go_enter Tryz.func46, Tryz.ntmps46
   go_wp2_with fail
   go_ret
   exact ⟨ret_bool (by simp [h1]), rfl⟩
 ·go_enter Tryz.func46, Tryz.ntmps46
  go_wp2_with fail
  go_ret
  exact ⟨ret_bool (by simp; intro; omega), rfl⟩
set_option maxRecDepth 100000 in
theorem pages_any (w : World) (p : Nat) (pg : Int) (h : w.cell? ⟨p, 2, none⟩ = some (.int .i64 pg)) : Calls Tryz.prog 21 #[.pointer (some ⟨p, 0, none⟩)] w fun e w' => e = .returned (.int .i64 pg) ∧ w = w' := by
 go_enter Tryz.func21, Tryz.ntmps21
 go_wp2_with fail
 go_ret
 exact ⟨rfl, rfl⟩
set_option maxRecDepth 100000 in
theorem epoch_any (w : World) (p : Nat) (ep : Int) (h : w.cell? ⟨p, 3, none⟩ = some (.int .i64 ep)) (h0 : 0 ≤ ep) (h1 : ep ≤ 4294967295) : Calls Tryz.prog 82 #[.pointer (some ⟨p, 0, none⟩)] w fun e w' => e = .returned (.int .i64 (ep + 1)) ∧ w = w' := by
 have hw : IntKind.i64.wrap (ep + 1) = ep + 1 := IntWalk.i64_in _ (by omega)
 go_enter Tryz.func82, Tryz.ntmps82
 go_wp2_with fail
 go_ret
 exact ⟨ret_int (by first | rfl | exact hw | simp [hw]), rfl⟩
set_option maxRecDepth 100000 in
theorem isNew_any (w : World) (p mp nn : Nat) (l : List Int) (no : Int) (h : w.cell? ⟨p, 10, none⟩ = some (.map (some mp))) (hs : SetW w mp nn l) (hn : In no) : Calls Tryz.prog 57 #[.pointer (some ⟨p, 0, none⟩), .int .i64 no] w fun e w' => e = .returned (.bool (decide (no ∈ l))) ∧ Below w.heap.size w w' := by
 obtain ⟨D, hom, hD⟩ := hs
 have hkey := keyI hn
 have hb := hD no
 have HB := Lib.hid hb
 clear hb hD
 have hbel : ∀ o : Obj, Below w.heap.size w (w.alloc o) := fun o => FreeMem.al w o
 go_enter Tryz.func57, Tryz.ntmps57
 go_wp2_with (at_lookup; refine wpList_lookup_own_unit _ rfl _ _ 57 rfl 3 103 lawI Tryz.underlying57 (zeroU _) mp nn D rfl hom _ _ rfl hkey ?_)
 go_ret
 exact ⟨ret_bool HB.out, hbel _⟩
end Go.Proofs.YtpidnkfcccboaaaGreat.PagerCode
