/- SumMem, SumFill. -/
import Derived.Test.YtpidnkfcccboaaaGreatKSumLeft
import Derived.Test.YtpidnkfcccboaaaGreatRows
import Derived.Deep.RegionWith
import Derived.Defers
import Derived.IntWalk
import Derived.Laws.LoneSync
import Derived.Laws.NewBlocks
import Derived.RegionCalls
namespace Go.Proofs.YtpidnkfcccboaaaGreat.SumMem
open Go.RowKit SumPlain Base

/-- block g is the cells cs of a thing of type t, none of them frozen -/
def At (w : World) (g : Nat) (t : TypeId) (cs : Array Value) : Prop := w.heap[g]? = some (.cells cs t (0, 0))
section
variable {w w' : World} {g : Nat} {t : TypeId} {cs : Array Value}
theorem At.lt (h : At w g t cs) : g < w.heap.size := by
 rcases Nat.lt_or_ge g w.heap.size with hl | hl
 ·exact hl
 ·unfold At at h; rw [Array.getElem?_eq_none hl] at h; cases h
theorem At.cell (h : At w g t cs) (i : Nat) : w.cell? ⟨g, i, none⟩ = cs[i]? := by unfold At at h; simp [World.cell?, h]
theorem At.frozen (h : At w g t cs) (i : Nat) : w.frozen? ⟨g, i, none⟩ = false := by unfold At at h; simp [World.frozen?, h]
theorem At.set (h : At w g t cs) (i : Nat) (u : Value) : At (w.setCell ⟨g, i, none⟩ u) g t (cs.setIfInBounds i u) := by
 unfold At at h ⊢
 simp [World.setCell, Array.getElem?_modify, h]
theorem At.grown {row : Option Nat} (h : At w g t cs) (hb : w.grownBy w' row) (hg : some g ≠ row) : At w' g t cs := (hb.block g h.lt hg).trans h
end
/-- the summer at block g: done, its lock's word, what was counted, and its table -/
def Sm (w : World) (g : Nat) (d s n : Int) (T : Nat → Int) : Prop :=
 ∃ cs, At w g 136 cs ∧ cs.size = 260 ∧ cs[0]? = some (.int .u32 d) ∧ cs[1]? = some (.int .i32 s) ∧ (∀ i, i < 256 → cs[3 + i]? = some (.int .u32 (T i))) ∧ cs[259]? = some (.int .i64 n)
section
variable {w w' : World} {g : Nat} {d s n : Int} {T : Nat → Int}
theorem Sm.lt (h : Sm w g d s n T) : g < w.heap.size := by obtain ⟨cs, h, _⟩ := h; exact h.lt
theorem Sm.cell0 (h : Sm w g d s n T) : w.cell? ⟨g, 0, none⟩ = some (.int .u32 d) := by obtain ⟨cs, h, _, h0, _⟩ := h; rw [h.cell, h0]
theorem Sm.cell1 (h : Sm w g d s n T) : w.cell? ⟨g, 1, none⟩ = some (.int .i32 s) := by obtain ⟨cs, h, _, _, h0, _⟩ := h; rw [h.cell, h0]
theorem Sm.cellT (h : Sm w g d s n T) (i : Nat) (hi : i < 256) : w.cell? ⟨g, 3 + i, none⟩ = some (.int .u32 (T i)) := by obtain ⟨cs, h, _, _, _, h0, _⟩ := h; rw [h.cell, h0 i hi]
theorem Sm.cellN (h : Sm w g d s n T) : w.cell? ⟨g, 259, none⟩ = some (.int .i64 n) := by obtain ⟨cs, h, _, _, _, _, h0⟩ := h; rw [h.cell, h0]
theorem Sm.frozen (h : Sm w g d s n T) (i : Nat) : w.frozen? ⟨g, i, none⟩ = false := by obtain ⟨cs, h, _⟩ := h; exact h.frozen i
theorem Sm.set0 (h : Sm w g d s n T) (d' : Int) : Sm (w.setCell ⟨g, 0, none⟩ (.int .u32 d')) g d' s n T := by
 obtain ⟨cs, h, hz, h0, h1, h2, h3⟩ := h
 refine ⟨_, h.set 0 _, by simpa using hz, by simp [hz], by simpa using h1, fun i hi => ?_, by simpa using h3⟩
 rw [Array.getElem?_setIfInBounds_ne (by omega)]; exact h2 i hi
theorem Sm.set1 (h : Sm w g d s n T) (s' : Int) : Sm (w.setCell ⟨g, 1, none⟩ (.int .i32 s')) g d s' n T := by
 obtain ⟨cs, h, hz, h0, h1, h2, h3⟩ := h
 refine ⟨_, h.set 1 _, by simpa using hz, by simpa using h0, by simp [hz], fun i hi => ?_, by simpa using h3⟩
 rw [Array.getElem?_setIfInBounds_ne (by omega)]; exact h2 i hi
theorem Sm.setN (h : Sm w g d s n T) (n' : Int) : Sm (w.setCell ⟨g, 259, none⟩ (.int .i64 n')) g d s n' T := by
 obtain ⟨cs, h, hz, h0, h1, h2, h3⟩ := h
 refine ⟨_, h.set 259 _, by simpa using hz, by simpa using h0, by simpa using h1, fun i hi => ?_, by simp [hz]⟩
 rw [Array.getElem?_setIfInBounds_ne (by omega)]; exact h2 i hi
theorem Sm.setT (h : Sm w g d s n T) (k : Nat) (hk : k < 256) (v : Int) : Sm (w.setCell ⟨g, 3 + k, none⟩ (.int .u32 v)) g d s n (fun i => if i = k then v else T i) := by
 obtain ⟨cs, h, hz, h0, h1, h2, h3⟩ := h
 refine ⟨_, h.set (3 + k) _, by simpa using hz, ?_, ?_, fun i hi => ?_, ?_⟩
 ·rw [Array.getElem?_setIfInBounds_ne (by omega)]; exact h0
 ·rw [Array.getElem?_setIfInBounds_ne (by omega)]; exact h1
 ·by_cases e : i = k
  ·subst e; rw [Array.getElem?_setIfInBounds_self_of_lt (by omega)]; simp
  ·rw [Array.getElem?_setIfInBounds_ne (by omega)]; simp only [if_neg e]; exact h2 i hi
 ·rw [Array.getElem?_setIfInBounds_ne (by omega)]; exact h3
theorem Sm.grown {row : Option Nat} (h : Sm w g d s n T) (hb : w.grownBy w' row) (hg : some g ≠ row) : Sm w' g d s n T := by
 obtain ⟨cs, h, r⟩ := h
 exact ⟨cs, h.grown hb hg, r⟩
theorem Sm.below (h : Sm w g d s n T) (hb : Below w.heap.size w w') : Sm w' g d s n T := by
 obtain ⟨cs, h, r⟩ := h
 exact ⟨cs, (hb.block g h.lt).trans h, r⟩
theorem Sm.drewN (h : Sm w g d s n T) (k : Nat) : Sm (w.drewN k) g d s n T := h
theorem Sm.drew (h : Sm w g d s n T) : Sm w.drew g d s n T := h
theorem Sm.congr (h : Sm w g d s n T) {T' : Nat → Int} (e : ∀ i, i < 256 → T i = T' i) : Sm w g d s n T' := by
 obtain ⟨cs, h, hz, h0, h1, h2, h3⟩ := h
 exact ⟨cs, h, hz, h0, h1, fun i hi => by rw [h2 i hi, e i hi], h3⟩
end
/-- only block g, and what is new, has turned -/
abbrev Only (g : Nat) (w w' : World) : Prop := w.grownBy w' (some g)
section
variable {a w : World} {g : Nat}
theorem Only.refl (w : World) (g : Nat) : Only g w w := World.grownBy.refl w _
theorem Only.drew (h : Only g a w) : Only g a w.drew := ⟨h.os, h.tape, h.output, h.size, h.block⟩
theorem Only.drewN (h : Only g a w) (n : Nat) : Only g a (w.drewN n) := ⟨h.os, h.tape, h.output, h.size, h.block⟩
theorem Only.alloc (h : Only g a w) (o : Obj) : Only g a (w.alloc o) :=
 ⟨h.os, h.tape, h.output, Nat.le_trans h.size (by simp), fun i hi hne => (Below.heap_alloc w o i (Nat.lt_of_lt_of_le hi h.size)).trans (h.block i hi hne)⟩
theorem Only.set (h : Only g a w) (k : Nat) (u : Value) : Only g a (w.setCell ⟨g, k, none⟩ u) :=
 ⟨h.os, h.tape, h.output, by simpa [World.setCell] using h.size, fun i hi hne => (Below.heap_setCell w ⟨g, k, none⟩ u i (by rintro rfl; exact hne rfl)).trans (h.block i hi hne)⟩
theorem Only.trans {b : World} (h : Only g a b) (k : Only g b w) : Only g a w :=
 ⟨k.os.trans h.os, k.tape.trans h.tape, k.output.trans h.output, Nat.le_trans h.size k.size, fun i hi hne => (k.block i (Nat.lt_of_lt_of_le hi h.size) hne).trans (h.block i hi hne)⟩
theorem Only.ofBelow (h : Below a.heap.size a w) : Only g a w := ⟨h.os, h.tape, h.output, h.size, fun i hi _ => h.block i hi⟩
theorem Only.below (h : Only g a w) {B : Nat} (hB : B ≤ g) (ha : g < a.heap.size) : Below B a w := ⟨h.os, h.tape, h.output, h.size, fun i hi => h.block i (by omega) (fun e => by injection e with e; omega)⟩
end

/-! the locks of a once -/
theorem disable (w : World) : (callFunc 153 #[]).run Tryz.prog w = .ok (.value (.tuple #[])) w := run_call_mark0 Tryz.func153 (by kernel_rfl) (by kernel_rfl) (by kernel_rfl) .disable (by kernel_rfl) w
theorem enable (w : World) : (callFunc 155 #[]).run Tryz.prog w = .ok (.value (.tuple #[])) w := run_call_mark0 Tryz.func155 (by kernel_rfl) (by kernel_rfl) (by kernel_rfl) .enable (by kernel_rfl) w
theorem acquire (a : Addr) (w : World) : (callFunc 156 #[.pointer (some a)]).run Tryz.prog w = .ok (.value (.tuple #[])) w := run_call_marked Tryz.func156 (by kernel_rfl) (by kernel_rfl) (by kernel_rfl) .acquire (by kernel_rfl) a w
theorem releaseMerge (a : Addr) (w : World) : (callFunc 158 #[.pointer (some a)]).run Tryz.prog w = .ok (.value (.tuple #[])) w := run_call_marked Tryz.func158 (by kernel_rfl) (by kernel_rfl) (by kernel_rfl) .releaseMerge (by kernel_rfl) a w

theorem store_deferred (a : Addr) (x : Value) (u : FrameMode) (w : World) (hc : w.cell? a = some x) (hz : w.frozen? a = false) :
  CallsD Tryz.prog 148 #[.pointer (some a), .bool true] u w fun e u' w' => u' = u ∧ (e = .returned (.tuple #[]) ∧ w' = w.drew.setCell a (.int .u32 1)) := by
 have hc' : w.drew.cell? a = some x := by go_simp
 have hz' : w.drew.frozen? a = false := by go_simp
 have hst := run_call_store (P := Tryz.prog) Tryz.func151 (by kernel_rfl) (by kernel_rfl) (by kernel_rfl) (by kernel_rfl) (k := .u32) (y := 1) hc' hz'
 go_enter_d Tryz.func148, Tryz.ntmps148
 go_wp2
 go_region_calls
 all_goals (go_end0; exact ⟨rfl, rfl⟩)

set_option maxRecDepth 100000 in
theorem unlock_deferred (a : Addr) (u : FrameMode) (w : World) (hc : w.cell? a = some (.int .i32 1)) (hz : w.frozen? a = false) :
  CallsD Tryz.prog 147 #[.pointer (some a)] u w fun e u' w' => u' = u ∧ (e = .returned (.tuple #[]) ∧ w' = w.setCell a (.int .i32 0)) := by
 have hd := disable
 have he := enable
 have hr := releaseMerge
 have hadd := run_call_add (P := Tryz.prog) Tryz.func159 (by kernel_rfl) (by kernel_rfl) (by kernel_rfl) .i32 (by kernel_rfl) (y := -1) (s := 0) hc hz (by simp [go_sem]; rfl)
 have hcv := run_convert_to_unsafe (P := Tryz.prog) (src := 222) (dst := 226) Tryz.underlying222 Tryz.underlying226 (by kernel_rfl) hc
 go_enter_d Tryz.func147, Tryz.ntmps147
 go_wp2
 go_end0
 go_wp2
 go_end0
 exact ⟨rfl, rfl⟩

set_option maxRecDepth 100000 in
theorem lock_free (a : Addr) (w : World) (hc : w.cell? a = some (.int .i32 0)) (hz : w.frozen? a = false) :
  Calls Tryz.prog 146 #[.pointer (some a)] w fun e w' => e = .returned (.tuple #[]) ∧ w' = w.setCell a (.int .i32 1) := by
 have hd := disable
 have he := enable
 have ha := acquire
 have hcas := run_call_cas_hit (P := Tryz.prog) Tryz.func154 (by kernel_rfl) (by kernel_rfl) (by kernel_rfl) .i32 (by kernel_rfl) (y := 1) hc hz
 have hc' : (w.setCell a (.int .i32 1)).cell? a = some (.int .i32 1) := World.cell?_setCell_same w a _ hc
 have hcv := run_convert_to_unsafe (P := Tryz.prog) (src := 222) (dst := 226) Tryz.underlying222 Tryz.underlying226 (by kernel_rfl) hc'
 go_enter Tryz.func146, Tryz.ntmps146
 go_wp2
 first | go_end0 | (simp only [Exit.inBlock, Exit.then]; refine bodyPost_ret (results_none rfl _ _ _) rfl ?_) | refine bodyPost_ret (results_none rfl _ _ _) rfl ?_
 go_wp2
 go_end0
 exact ⟨rfl, rfl⟩
end Go.Proofs.YtpidnkfcccboaaaGreat.SumMem
namespace Go.Proofs.YtpidnkfcccboaaaGreat.SumFill
open Go.RowKit SumPlain Base SumLeft SumMem

/-- the table behind k rounds -/
def part_ (T : Nat → Int) (k : Nat) : Nat → Int := fun i => if i < k then (tab i : Nat) else T i
theorem part_succ (T : Nat → Int) (k : Nat) (i : Nat) : (if i = k then ((tab k : Nat) : Int) else part_ T k i) = part_ T (k + 1) i := by
 unfold part_
 by_cases h : i = k
 ·subst h; simp
 ·rw [if_neg h]; by_cases h2 : i < k
  ·rw [if_pos h2, if_pos (by omega)]
  ·rw [if_neg h2, if_neg (by omega)]
def FillRel (w : World) (g : Nat) (d s n : Int) (T : Nat → Int) (k : Nat) (wr : World) : Prop := Sm wr g d s n (part_ T k) ∧ Only g w wr

set_option maxRecDepth 100000 in
set_option maxHeartbeats 800000 in
theorem fill_any (g : Nat) (d s n : Int) (T : Nat → Int) (w : World) (h : Sm w g d s n T) :
  Calls Tryz.prog 136 #[.pointer (some ⟨g, 0, none⟩)] w fun e w' => e = .returned (.tuple #[]) ∧ Sm w' g d s n (fun i => (tab i : Nat)) ∧ Only g w w' := by
 go_enter Tryz.func136, Tryz.ntmps136
 go_wp2_with fail
 go_loopw [3] (fun i wr => ∃ k : Nat, k ≤ 256 ∧ i = .int .i64 k ∧ FillRel w g d s n T k wr) (fun i _ => 256 - (intOf i).toNat)
 case atStart => exact ⟨0, by omega, rfl, by unfold FillRel part_; simpa using ⟨h, Only.refl w g⟩⟩
 case round =>
  obtain ⟨k, hk, rfl, hrel⟩ := hrel
  by_cases hlt : k < 256
  ·have hc := hrel.1.cellT k hlt
   have hf := hrel.1.frozen (3 + k)
   have HR := Lib.hid hrel
   clear hrel
   go_wp2_with fail
   have hw : IntKind.u32.wrap (k : Int) = k := by simp [IntKind.wrap, IntKind.signed, IntKind.bits]; omega
   go_region_with (go_at_call 143; (with_reducible refine (left_any k _ (by omega)).mono ?_); rintro e w' ⟨rfl, rfl⟩)
   clear hw hc hf
   go_wp2_with fail
   go_roundw
   case rel =>
    refine ⟨k + 1, by omega, by go_num, ?_⟩
    have hr := HR.out
    unfold FillRel at hr ⊢
    exact ⟨((hr.1.setT k hlt _).congr fun i _ => part_succ T k i).drew, (hr.2.set _ _).drew⟩
   case measure => simp [intOf]; omega
  ·obtain rfl : k = 256 := by omega
   go_wp2_with fail
   go_end0
   refine ⟨rfl, ?_⟩
   unfold FillRel at hrel
   exact ⟨hrel.1.congr fun i hi => by unfold part_; rw [if_pos hi], hrel.2⟩

set_option maxRecDepth 100000 in
set_option maxHeartbeats 1600000 in
theorem slow_any (g : Nat) (n : Int) (T : Nat → Int) (w : World) (h : Sm w g 0 0 n T) :
  Calls Tryz.prog 142 #[.pointer (some ⟨g, 0, none⟩), .func (.func 136) #[.pointer (some ⟨g, 0, none⟩)] #[]] w fun e w' => e = .returned (.tuple #[]) ∧ Sm w' g 1 0 n (fun i => (tab i : Nat)) ∧ Only g w w' := by
 have hk1 := h.set1 1
 have hl := run_call_load (P := Tryz.prog) Tryz.func145 (by kernel_rfl) (by kernel_rfl) (by kernel_rfl) .u32 (by kernel_rfl) (w := w.setCell ⟨g, 1, none⟩ (.int .i32 1)) (a := ⟨g, 0, none⟩) (x := 0) hk1.cell0
 have hnot : ∀ (x : Bool) (w : World), (Op.unary .not (.bool x)).run Tryz.prog w = .ok (.bool (!x)) w := fun _ _ => rfl
 go_enter_defers Tryz.func142, Tryz.ntmps142
 go_wp2_with fail
 refine (lock_free ⟨g, 1, none⟩ _ h.cell1 (h.frozen 1)).mono ?_
 rintro e w' ⟨rfl, rfl⟩
 go_wp2_with (go_at_call 141; go_in)
 refine (fill_any g 0 1 n T _ hk1).mono ?_
 rintro e w1 ⟨rfl, h1, o1⟩
 clear hl hnot
 go_wp2_with fail
 refine leaves_cons (f := 148) (args := #[.pointer (some ⟨g, 0, none⟩), .bool true]) (by simp) (by simp [go_sem]) ?_
 refine (store_deferred ⟨g, 0, none⟩ (.int .u32 0) .returning _ h1.cell0 (h1.frozen 0)).mono ?_
 rintro e u' w'' ⟨rfl, rfl, rfl⟩
 have h2 := h1.drew.set0 1
 refine leaves_cons (f := 147) (args := #[.pointer (some ⟨g, 1, none⟩)]) (by simp [settle]) (by simp [go_sem]) ?_
 refine (unlock_deferred ⟨g, 1, none⟩ _ _ h2.cell1 (h2.frozen 1)).mono ?_
 rintro e u' w'' ⟨rfl, rfl, rfl⟩
 have h3 := h2.set1 0
 have o3 : Only g w ((w1.drew.setCell ⟨g, 0, none⟩ (.int .u32 1)).setCell ⟨g, 1, none⟩ (.int .i32 0)) := ((((Only.refl w g).set 1 _).trans o1).drew.set 0 _).set 1 _
 simp [Leaves, settle, results, Tryz.results142]
 exact ⟨h3, o3⟩

/-- a once that is done, or not yet: behind it the table is there -/
def Ready (w : World) (g : Nat) (n : Int) : Prop := (∃ T, Sm w g 0 0 n T) ∨ Sm w g 1 0 n (fun i => (tab i : Nat))
abbrev Done (w : World) (g : Nat) (n : Int) : Prop := Sm w g 1 0 n (fun i => (tab i : Nat))

set_option maxRecDepth 100000 in
set_option maxHeartbeats 1600000 in
theorem do_first (g : Nat) (n : Int) (T : Nat → Int) (w : World) (h : Sm w g 0 0 n T) :
  Calls Tryz.prog 135 #[.pointer (some ⟨g, 0, none⟩), .func (.func 136) #[.pointer (some ⟨g, 0, none⟩)] #[]] w fun e w' => e = .returned (.tuple #[]) ∧ Done w' g n ∧ Only g w w' := by
 have hl := run_call_load (P := Tryz.prog) Tryz.func145 (by kernel_rfl) (by kernel_rfl) (by kernel_rfl) .u32 (by kernel_rfl) h.cell0
 have hnot : ∀ (x : Bool) (w : World), (Op.unary .not (.bool x)).run Tryz.prog w = .ok (.bool (!x)) w := fun _ _ => rfl
 go_enter Tryz.func135, Tryz.ntmps135
 go_wp2_with (first | (go_at_call 142; refine (slow_any g n T _ h).mono ?_; rintro e w' ⟨rfl, h1, o1⟩) | (go_at_call 141; go_in))
 go_end0
 exact ⟨rfl, h1, o1⟩
theorem do_done (g : Nat) (n : Int) (w : World) (h : Done w g n) (fv : Value) :
  Calls Tryz.prog 135 #[.pointer (some ⟨g, 0, none⟩), fv] w fun e w' => e = .returned (.tuple #[]) ∧ Done w' g n ∧ Only g w w' := by
 have hl := run_call_load (P := Tryz.prog) Tryz.func145 (by kernel_rfl) (by kernel_rfl) (by kernel_rfl) .u32 (by kernel_rfl) h.cell0
 have hnot : ∀ (x : Bool) (w : World), (Op.unary .not (.bool x)).run Tryz.prog w = .ok (.bool (!x)) w := fun _ _ => rfl
 go_enter Tryz.func135, Tryz.ntmps135
 go_wp2
 go_end0
 exact ⟨rfl, h, Only.refl w g⟩
theorem do_any (g : Nat) (n : Int) (w : World) (h : Ready w g n) :
  Calls Tryz.prog 135 #[.pointer (some ⟨g, 0, none⟩), .func (.func 136) #[.pointer (some ⟨g, 0, none⟩)] #[]] w fun e w' => e = .returned (.tuple #[]) ∧ Done w' g n ∧ Only g w w' := by
 rcases h with ⟨T, h⟩ | h
 ·exact do_first g n T w h
 ·exact do_done g n w h _

theorem add_any (g : Nat) (d s n : Int) (T : Nat → Int) (m : Int) (w : World) (h : Sm w g d s n T) (h0 : 0 ≤ n) (h1 : 0 ≤ m) (h2 : n + m ≤ 9223372036854775807) :
  Calls Tryz.prog 138 #[.pointer (some ⟨g, 259, none⟩), .int .i64 m] w fun e w' => e = .returned (.int .i64 (n + m)) ∧ w' = w.setCell ⟨g, 259, none⟩ (.int .i64 (n + m)) := by
 have hadd := run_call_add (P := Tryz.prog) Tryz.func144 (by kernel_rfl) (by kernel_rfl) (by kernel_rfl) .i64 (by kernel_rfl) (y := m) (s := n + m) h.cellN (h.frozen 259) (by
  have e : IntKind.i64.wrap (n + m) = n + m := IntWalk.i64_in _ (by omega)
  simp [Op.intArith, e])
 go_enter Tryz.func138, Tryz.ntmps138
 go_wp2
 go_ret
 exact ⟨rfl, rfl⟩
end Go.Proofs.YtpidnkfcccboaaaGreat.SumFill
