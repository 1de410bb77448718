/- The contracts of cutter and of the closure that it makes. -/
import Derived.Test.YtcnblgienombeaaPagePut
import Derived.Deep.QuietTactic
import Derived.BigQuiet
import Derived.Laws.ResultCell
namespace Go.Proofs.Ytcnblgienombeaa.PageCut
open Go.RowKit Base PagePlain PageSmall PageBytes PageLay PagePut SumMem

/-- what the closure holds: the bytes, where the table stands, where the next cell must end -/
structure Clo (w : World) (x y z : Nat) (A : Option Addr) (m c s e : Nat) : Prop where
  a : At w x 27 #[.slice A m c]
  b : At w y 3 #[.int .i64 (s : Int)]
  c : At w z 3 #[.int .i64 (e : Int)]
  xy : x ≠ y
  xz : x ≠ z
  yz : y ≠ z
theorem at_far {w : World} {g : Nat} {t : TypeId} {cs : Array Value} (h : At w g t cs) {p : Addr} (hp : g ≠ p.block) (u : Value) : At (w.setCell p u) g t cs := (Below.heap_setCell w p u g hp).trans h
theorem Clo.set {w : World} {x y z : Nat} {A : Option Addr} {m c s e : Nat} (h : Clo w x y z A m c s e) (s' e' : Nat) : Clo ((w.setCell ⟨y, 0, none⟩ (.int .i64 (s' : Int))).setCell ⟨z, 0, none⟩ (.int .i64 (e' : Int))) x y z A m c s' e' :=
  ⟨at_far (at_far h.a h.xy _) h.xz _, at_far (by simpa using h.b.set 0 (.int .i64 (s' : Int))) h.yz _, by simpa using (at_far h.c h.yz.symm (.int .i64 (s' : Int)) (p := ⟨y, 0, none⟩)).set 0 (.int .i64 (e' : Int)), h.xy, h.xz, h.yz⟩
theorem Clo.drewN {w : World} {x y z : Nat} {A : Option Addr} {m c s e : Nat} (h : Clo w x y z A m c s e) (n : Nat) : Clo (w.drewN n) x y z A m c s e := ⟨h.a, h.b, h.c, h.xy, h.xz, h.yz⟩
theorem Clo.below {w w' : World} {x y z : Nat} {A : Option Addr} {m c s e : Nat} (h : Clo w x y z A m c s e) (hb : Below w.heap.size w w') : Clo w' x y z A m c s e :=
  ⟨(hb.block _ (At.lt h.a)).trans h.a, (hb.block _ (At.lt h.b)).trans h.b, (hb.block _ (At.lt h.c)).trans h.c, h.xy, h.xz, h.yz⟩
theorem Clo.grown {w w' : World} {x y z : Nat} {A : Option Addr} {m c s e : Nat} {row : Option Nat} (h : Clo w x y z A m c s e) (hb : w.grownBy w' row) (hr : ∀ k, row = some k → k ≠ x ∧ k ≠ y ∧ k ≠ z) : Clo w' x y z A m c s e :=
  ⟨(hb.block _ (At.lt h.a) (fun q => (hr x q.symm).1 rfl)).trans h.a, (hb.block _ (At.lt h.b) (fun q => (hr y q.symm).2.1 rfl)).trans h.b, (hb.block _ (At.lt h.c) (fun q => (hr z q.symm).2.2 rfl)).trans h.c, h.xy, h.xz, h.yz⟩

theorem add_add_ (a : Addr) (i k : Nat) : (a.add i).add k = a.add (i + k) := by
  by_cases h1 : i = 0
  · subst h1; simp [Addr.add]
  · by_cases h2 : k = 0
    · subst h2; simp [Addr.add]
    · simp [Addr.add, h1, h2, Nat.add_assoc]
theorem cutter_any (w : World) (A : Option Addr) (m c : Nat) :
    Calls Try.prog 52 #[.slice A m c] w fun e w' => ∃ x y z : Nat, e = .returned (.func (.func 57) #[] #[.pointer (some ⟨x, 0, none⟩), .pointer (some ⟨y, 0, none⟩), .pointer (some ⟨z, 0, none⟩)]) ∧
      Clo w' x y z A m c 14 252 ∧ w.heap.size ≤ x ∧ w.heap.size ≤ y ∧ w.heap.size ≤ z ∧ Below w.heap.size w w' := by
  have hmf : ∀ (fn : Fn) (first cap : Array Value) (w : World), (Instr.makeFunc fn first cap).run Try.prog w = .ok (.func fn first cap) w := fun _ _ _ _ => rfl
  have HC : Clo (((w.alloc (.cells #[.slice A m c] 27)).alloc (.cells #[.int .i64 14] 3)).alloc (.cells #[.int .i64 252] 3)) w.heap.size (w.heap.size + 1) (w.heap.size + 1 + 1) A m c 14 252 := by
    refine ⟨?_, ?_, ?_, by omega, by omega, by omega⟩
    · show _ = _
      rw [Below.heap_alloc _ _ _ (by simp; omega), Below.heap_alloc _ _ _ (by simp), heap_alloc_new]
    · have := heap_alloc_new (w.alloc (.cells #[.slice A m c] 27)) (.cells #[.int .i64 14] 3)
      show _ = _
      rw [Below.heap_alloc _ _ _ (by simp)]
      simpa using this
    · have := heap_alloc_new ((w.alloc (.cells #[.slice A m c] 27)).alloc (.cells #[.int .i64 14] 3)) (.cells #[.int .i64 252] 3)
      show _ = _
      simpa using this
  have HC' := Lib.hid HC
  clear HC
  have HB := Lib.hid (show Below w.heap.size w (((w.alloc (.cells #[.slice A m c] 27)).alloc (.cells #[.int .i64 14] 3)).alloc (.cells #[.int .i64 252] 3)) from (((Below.refl _ _).alloc (Nat.le_refl _) _).alloc (by simp) _).alloc (by simp; omega) _)
  go_enter Try.func52, Try.ntmps52
  go_wp2_with fail
  go_ret
  exact ⟨_, _, _, rfl, HC'.out, by omega, by omega, by omega, HB.out⟩

set_option maxRecDepth 100000 in
set_option maxHeartbeats 1600000 in
theorem next_yes (w : World) (B x y z : Nat) (A : Option Addr) (l : List UInt8) (c s e m : Nat) (h : Clo w x y z A m c s e) (hm : m = l.length) (hrow : Row w B A (bv l)) (hs : s + 1 < l.length) (he : e ≤ l.length) (hc : l.length ≤ c) (hl : l.length ≤ 1000000)
    (hf : gt l s + gt l (s + 1) = e) :
    Calls Try.prog 57 #[.pointer (some ⟨x, 0, none⟩), .pointer (some ⟨y, 0, none⟩), .pointer (some ⟨z, 0, none⟩)] w fun ex w' => ∃ A' cp, ex = .returned (.tuple #[.slice A' (gt l (s + 1)) cp, .bool true]) ∧
      Row w B A' (bv ((l.drop (gt l s)).take (gt l (s + 1)))) ∧ ∃ n, w' = ((w.setCell ⟨y, 0, none⟩ (.int .i64 ((s + 2 : Nat) : Int))).setCell ⟨z, 0, none⟩ (.int .i64 (gt l s : Int))).drewN n := by
  subst hm
  obtain ⟨ad, rfl, hb0, c0⟩ := hrow.get s (by rw [bv_len]; omega)
  obtain ⟨ad', hA, hb1, c1⟩ := hrow.get (s + 1) (by rw [bv_len]; omega)
  injection hA with hA
  subst hA
  simp only [bv, List.getElem_map] at c0 c1
  rw [← gt_get l s (by omega)] at c0
  rw [← gt_get l (s + 1) (by omega)] at c1
  have ca : w.cell? ⟨x, 0, none⟩ = some (.slice (some ad) l.length c) := by rw [h.a.cell]; rfl
  have cb : w.cell? ⟨y, 0, none⟩ = some (.int .i64 (s : Int)) := by rw [h.b.cell]; rfl
  have cc : w.cell? ⟨z, 0, none⟩ = some (.int .i64 (e : Int)) := by rw [h.c.cell]; rfl
  have fb := h.b.frozen 0
  have fc := h.c.frozen 0
  have HRC := Lib.hid (show Row w B (some (ad.add (gt l s))) (bv ((l.drop (gt l s)).take (gt l (s + 1)))) from fun j v hv => by
    have hv2 : (bv l)[gt l s + j]? = some v := by
      simp only [bv, List.getElem?_map, List.getElem?_take, List.getElem?_drop] at hv ⊢
      split at hv
      · exact hv
      · cases hv
    obtain ⟨ad', e1, h1, h2⟩ := hrow _ v hv2
    injection e1 with e1
    subst e1
    exact ⟨_, rfl, by rw [blk_add]; exact h1, by rw [add_add_]; exact h2⟩)
  have hyz := h.yz
  have hxy := h.xy
  have hxz := h.xz
  have g0 := gt_lt l s
  have g1 := gt_lt l (s + 1)
  generalize gt l s = a at *
  generalize gt l (s + 1) = b at *
  have i0 : (s : Int) < (l.length : Int) := by omega
  have i1 : (s : Int) + 1 < (l.length : Int) := by omega
  have j0 : IntKind.i64.wrap ((s : Int) + 1) = (s : Int) + 1 := IntWalk.i64_in _ (by omega)
  have j1 : IntKind.i64.wrap (a : Int) = (a : Int) := IntWalk.i64_in _ (by omega)
  have j2 : IntKind.i64.wrap (b : Int) = (b : Int) := IntWalk.i64_in _ (by omega)
  have c2 : w.cell? ⟨ad.block, ad.off + (s + 1), none⟩ = some (.int .u8 (b : Int)) := by rw [← c1]; simp [Addr.add]
  have i2 : (0 : Int) ≤ (s : Int) + 1 := by omega
  have i3 : ((s : Int) + 1).toNat = s + 1 := by omega
  clear hrow h
  go_enter Try.func57, Try.ntmps57
  go_wp2_with fail
  go_quiet (fail)
  go_wp2_with fail
  all_goals
    go_ret2
    have hba : e - a = b := by omega
    try simp only [hba]
    first
      | exact ⟨_, ⟨_, rfl⟩, HRC.out, nq, rfl⟩
      | (obtain rfl : b = 0 := by omega
         exact ⟨_, ⟨_, rfl⟩, Row.nil, nq, rfl⟩)
set_option maxRecDepth 100000 in
set_option maxHeartbeats 1600000 in
theorem next_no (w : World) (B x y z : Nat) (A : Option Addr) (l : List UInt8) (c s e m : Nat) (h : Clo w x y z A m c s e) (hm : m = l.length) (hrow : Row w B A (bv l)) (hs : s + 1 < l.length) (hl : l.length ≤ 1000000)
    (hf : gt l s + gt l (s + 1) ≠ e) :
    Calls Try.prog 57 #[.pointer (some ⟨x, 0, none⟩), .pointer (some ⟨y, 0, none⟩), .pointer (some ⟨z, 0, none⟩)] w fun ex w' => ex = .returned (.tuple #[.slice none 0 0, .bool false]) ∧ ∃ n, w' = w.drewN n := by
  subst hm
  obtain ⟨ad, rfl, hb0, c0⟩ := hrow.get s (by rw [bv_len]; omega)
  obtain ⟨ad', hA, hb1, c1⟩ := hrow.get (s + 1) (by rw [bv_len]; omega)
  injection hA with hA
  subst hA
  simp only [bv, List.getElem_map] at c0 c1
  rw [← gt_get l s (by omega)] at c0
  rw [← gt_get l (s + 1) (by omega)] at c1
  have ca : w.cell? ⟨x, 0, none⟩ = some (.slice (some ad) l.length c) := by rw [h.a.cell]; rfl
  have cb : w.cell? ⟨y, 0, none⟩ = some (.int .i64 (s : Int)) := by rw [h.b.cell]; rfl
  have cc : w.cell? ⟨z, 0, none⟩ = some (.int .i64 (e : Int)) := by rw [h.c.cell]; rfl
  have g0 := gt_lt l s
  have g1 := gt_lt l (s + 1)
  have hne : ((gt l s : Int) + (gt l (s + 1) : Int) != (e : Int)) = true := by simp; omega
  generalize gt l s = a at *
  generalize gt l (s + 1) = b at *
  have i0 : (s : Int) < (l.length : Int) := by omega
  have i1 : (s : Int) + 1 < (l.length : Int) := by omega
  have j0 : IntKind.i64.wrap ((s : Int) + 1) = (s : Int) + 1 := IntWalk.i64_in _ (by omega)
  have j1 : IntKind.i64.wrap (a : Int) = (a : Int) := IntWalk.i64_in _ (by omega)
  have j2 : IntKind.i64.wrap (b : Int) = (b : Int) := IntWalk.i64_in _ (by omega)
  have c2 : w.cell? ⟨ad.block, ad.off + (s + 1), none⟩ = some (.int .u8 (b : Int)) := by rw [← c1]; simp [Addr.add]
  have i2 : (0 : Int) ≤ (s : Int) + 1 := by omega
  have i3 : ((s : Int) + 1).toNat = s + 1 := by omega
  clear hrow h hf
  go_enter Try.func57, Try.ntmps57
  go_wp2_with fail
  go_quiet (fail)
  go_wp2_with fail
  go_ret2
  exact ⟨rfl, nq, rfl⟩
end Go.Proofs.Ytcnblgienombeaa.PageCut
