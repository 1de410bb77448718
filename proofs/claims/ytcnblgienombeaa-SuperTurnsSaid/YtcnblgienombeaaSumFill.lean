/- Contracts of fill and of the once that calls it. -/
import Derived.Test.YtcnblgienombeaaSumMem
import Derived.IntWalk
namespace Go.Proofs.Ytcnblgienombeaa.SumFill
open Go.RowKit SumPlain Base SumLeft SumMem

/-- the table behind k rounds -/
def part_ (T : Nat → Int) (k : Nat) : Nat → Int := fun i => if i < k then (tab i : Nat) else T i
theorem part_succ (T : Nat → Int) (k : Nat) (i : Nat) : (if i = k then ((tab k : Nat) : Int) else part_ T k i) = part_ T (k + 1) i := by
  unfold part_
  by_cases h : i = k
  · subst h; simp
  · rw [if_neg h]; by_cases h2 : i < k
    · rw [if_pos h2, if_pos (by omega)]
    · rw [if_neg h2, if_neg (by omega)]
def FillRel (w : World) (g : Nat) (d s n : Int) (T : Nat → Int) (k : Nat) (wr : World) : Prop := Sm wr g d s n (part_ T k) ∧ Only g w wr

set_option maxRecDepth 100000 in
set_option maxHeartbeats 800000 in
theorem fill_any (g : Nat) (d s n : Int) (T : Nat → Int) (w : World) (h : Sm w g d s n T) :
    Calls Try.prog 49 #[.pointer (some ⟨g, 0, none⟩)] w fun e w' => e = .returned (.tuple #[]) ∧ Sm w' g d s n (fun i => (tab i : Nat)) ∧ Only g w w' := by
  go_enter Try.func49, Try.ntmps49
  go_wp2_with fail
  go_loopw [3] (fun i wr => ∃ k : Nat, k ≤ 256 ∧ i = .int .i64 k ∧ FillRel w g d s n T k wr) (fun i _ => 256 - (intOf i).toNat)
  case atStart => exact ⟨0, by omega, rfl, by unfold FillRel part_; simpa using ⟨h, Only.refl w g⟩⟩
  case round =>
    obtain ⟨k, hk, rfl, hrel⟩ := hrel
    by_cases hlt : k < 256
    · have hc := hrel.1.cellT k hlt
      have hf := hrel.1.frozen (3 + k)
      have HR := Lib.hid hrel
      clear hrel
      go_wp2_with fail
      have hw : IntKind.u32.wrap (k : Int) = k := by simp [IntKind.wrap, IntKind.signed, IntKind.bits]; omega
      go_region_with (go_at_call 55; (with_reducible refine (left_any k _ (by omega)).mono ?_); rintro e w' ⟨rfl, rfl⟩)
      clear hw hc hf
      go_wp2_with fail
      go_roundw
      case rel =>
        refine ⟨k + 1, by omega, by go_num, ?_⟩
        have hr := HR.out
        unfold FillRel at hr ⊢
        exact ⟨((hr.1.setT k hlt _).congr fun i _ => part_succ T k i).drew, (hr.2.set _ _).drew⟩
      case measure => simp [intOf]; omega
    · obtain rfl : k = 256 := by omega
      go_wp2_with fail
      go_end0
      refine ⟨rfl, ?_⟩
      unfold FillRel at hrel
      exact ⟨hrel.1.congr fun i hi => by unfold part_; rw [if_pos hi], hrel.2⟩

set_option maxRecDepth 100000 in
set_option maxHeartbeats 1600000 in
theorem slow_any (g : Nat) (n : Int) (T : Nat → Int) (w : World) (h : Sm w g 0 0 n T) :
    Calls Try.prog 54 #[.pointer (some ⟨g, 0, none⟩), .func (.func 49) #[.pointer (some ⟨g, 0, none⟩)] #[]] w fun e w' => e = .returned (.tuple #[]) ∧ Sm w' g 1 0 n (fun i => (tab i : Nat)) ∧ Only g w w' := by
  have hk1 := h.set1 1
  have hl := run_call_load (P := Try.prog) Try.func58 (by kernel_rfl) (by kernel_rfl) (by kernel_rfl) .u32 (by kernel_rfl) (w := w.setCell ⟨g, 1, none⟩ (.int .i32 1)) (a := ⟨g, 0, none⟩) (x := 0) hk1.cell0
  have hnot : ∀ (x : Bool) (w : World), (Op.unary .not (.bool x)).run Try.prog w = .ok (.bool (!x)) w := fun _ _ => rfl
  go_enter_defers Try.func54, Try.ntmps54
  go_wp2_with fail
  refine (lock_free ⟨g, 1, none⟩ _ h.cell1 (h.frozen 1)).mono ?_
  rintro e w' ⟨rfl, rfl⟩
  go_wp2_with (go_at_call 53; go_in)
  refine (fill_any g 0 1 n T _ hk1).mono ?_
  rintro e w1 ⟨rfl, h1, o1⟩
  clear hl hnot
  go_wp2_with fail
  refine leaves_cons (f := 61) (args := #[.pointer (some ⟨g, 0, none⟩), .bool true]) (by simp) (by simp [go_sem]) ?_
  refine (store_deferred ⟨g, 0, none⟩ (.int .u32 0) .returning _ h1.cell0 (h1.frozen 0)).mono ?_
  rintro e u' w'' ⟨rfl, rfl, rfl⟩
  have h2 := h1.drew.set0 1
  refine leaves_cons (f := 60) (args := #[.pointer (some ⟨g, 1, none⟩)]) (by simp [settle]) (by simp [go_sem]) ?_
  refine (unlock_deferred ⟨g, 1, none⟩ _ _ h2.cell1 (h2.frozen 1)).mono ?_
  rintro e u' w'' ⟨rfl, rfl, rfl⟩
  have h3 := h2.set1 0
  have o3 : Only g w ((w1.drew.setCell ⟨g, 0, none⟩ (.int .u32 1)).setCell ⟨g, 1, none⟩ (.int .i32 0)) := ((((Only.refl w g).set 1 _).trans o1).drew.set 0 _).set 1 _
  simp [Leaves, settle, results, Try.results54]
  exact ⟨h3, o3⟩

/-- a once that is done, or not yet: behind it the table is there -/
def Ready (w : World) (g : Nat) (n : Int) : Prop := (∃ T, Sm w g 0 0 n T) ∨ Sm w g 1 0 n (fun i => (tab i : Nat))
abbrev Done (w : World) (g : Nat) (n : Int) : Prop := Sm w g 1 0 n (fun i => (tab i : Nat))

set_option maxRecDepth 100000 in
set_option maxHeartbeats 1600000 in
theorem do_first (g : Nat) (n : Int) (T : Nat → Int) (w : World) (h : Sm w g 0 0 n T) :
    Calls Try.prog 48 #[.pointer (some ⟨g, 0, none⟩), .func (.func 49) #[.pointer (some ⟨g, 0, none⟩)] #[]] w fun e w' => e = .returned (.tuple #[]) ∧ Done w' g n ∧ Only g w w' := by
  have hl := run_call_load (P := Try.prog) Try.func58 (by kernel_rfl) (by kernel_rfl) (by kernel_rfl) .u32 (by kernel_rfl) h.cell0
  have hnot : ∀ (x : Bool) (w : World), (Op.unary .not (.bool x)).run Try.prog w = .ok (.bool (!x)) w := fun _ _ => rfl
  go_enter Try.func48, Try.ntmps48
  go_wp2_with (first | (go_at_call 54; refine (slow_any g n T _ h).mono ?_; rintro e w' ⟨rfl, h1, o1⟩) | (go_at_call 53; go_in))
  go_end0
  exact ⟨rfl, h1, o1⟩
theorem do_done (g : Nat) (n : Int) (w : World) (h : Done w g n) (fv : Value) :
    Calls Try.prog 48 #[.pointer (some ⟨g, 0, none⟩), fv] w fun e w' => e = .returned (.tuple #[]) ∧ Done w' g n ∧ Only g w w' := by
  have hl := run_call_load (P := Try.prog) Try.func58 (by kernel_rfl) (by kernel_rfl) (by kernel_rfl) .u32 (by kernel_rfl) h.cell0
  have hnot : ∀ (x : Bool) (w : World), (Op.unary .not (.bool x)).run Try.prog w = .ok (.bool (!x)) w := fun _ _ => rfl
  go_enter Try.func48, Try.ntmps48
  go_wp2
  go_end0
  exact ⟨rfl, h, Only.refl w g⟩
theorem do_any (g : Nat) (n : Int) (w : World) (h : Ready w g n) :
    Calls Try.prog 48 #[.pointer (some ⟨g, 0, none⟩), .func (.func 49) #[.pointer (some ⟨g, 0, none⟩)] #[]] w fun e w' => e = .returned (.tuple #[]) ∧ Done w' g n ∧ Only g w w' := by
  rcases h with ⟨T, h⟩ | h
  · exact do_first g n T w h
  · exact do_done g n w h _

theorem add_any (g : Nat) (d s n : Int) (T : Nat → Int) (m : Int) (w : World) (h : Sm w g d s n T) (h0 : 0 ≤ n) (h1 : 0 ≤ m) (h2 : n + m ≤ 9223372036854775807) :
    Calls Try.prog 51 #[.pointer (some ⟨g, 259, none⟩), .int .i64 m] w fun e w' => e = .returned (.int .i64 (n + m)) ∧ w' = w.setCell ⟨g, 259, none⟩ (.int .i64 (n + m)) := by
  have hadd := run_call_add (P := Try.prog) Try.func56 (by kernel_rfl) (by kernel_rfl) (by kernel_rfl) .i64 (by kernel_rfl) (y := m) (s := n + m) h.cellN (h.frozen 259) (by
    have e : IntKind.i64.wrap (n + m) = n + m := IntWalk.i64_in _ (by omega)
    simp [Op.intArith, e])
  go_enter Try.func51, Try.ntmps51
  go_wp2
  go_ret
  exact ⟨rfl, rfl⟩
end Go.Proofs.Ytcnblgienombeaa.SumFill
