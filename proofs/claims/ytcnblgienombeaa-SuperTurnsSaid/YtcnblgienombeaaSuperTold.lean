/- The contracts of reader, of the closure that it makes, and of told. -/
import Derived.Test.YtcnblgienombeaaSuperCellOf
import Derived.Test.YtcnblgienombeaaPageCut
namespace Go.Proofs.Ytcnblgienombeaa.SuperTold
open Go.RowKit Base SumPlain SumMem SumFill SumOf PagePlain PageSmall PageBytes PageLay PageCut PageTold2 PageAwake SuperPlain SuperRefCheck SuperSpec SuperCode

/-- what the closure holds: the text, where it stands -/
structure Rd (w : World) (x y : Nat) (s : ByteArray) (i : Nat) : Prop where
  a : At w x 9 #[.string s]
  b : At w y 3 #[.int .i64 (i : Int)]
  xy : x ≠ y
theorem Rd.set {w : World} {x y : Nat} {s : ByteArray} {i : Nat} (h : Rd w x y s i) (i' : Nat) : Rd (w.setCell ⟨y, 0, none⟩ (.int .i64 (i' : Int))) x y s i' :=
  ⟨at_far h.a h.xy _, by simpa using h.b.set 0 (.int .i64 (i' : Int)), h.xy⟩
theorem Rd.below {w w' : World} {x y : Nat} {s : ByteArray} {i : Nat} (h : Rd w x y s i) (hb : Below w.heap.size w w') : Rd w' x y s i :=
  ⟨at_below h.a hb, at_below h.b hb, h.xy⟩
theorem reader_any (w : World) (s : ByteArray) :
    Calls Try.prog 38 #[.string s] w fun e w' => ∃ x y : Nat, e = .returned (.func (.func 46) #[] #[.pointer (some ⟨x, 0, none⟩), .pointer (some ⟨y, 0, none⟩)]) ∧
      Rd w' x y s 0 ∧ w.heap.size ≤ x ∧ w.heap.size ≤ y ∧ Below w.heap.size w w' := by
  have hmf : ∀ (fn : Fn) (first cap : Array Value) (w : World), (Instr.makeFunc fn first cap).run Try.prog w = .ok (.func fn first cap) w := fun _ _ _ _ => rfl
  have HC := Lib.hid (show Rd ((w.alloc (.cells #[.string s] 9)).alloc (.cells #[.int .i64 0] 3)) w.heap.size (w.heap.size + 1) s 0 from by
    refine ⟨?_, ?_, by omega⟩
    · show _ = _
      rw [Below.heap_alloc _ _ _ (by simp), heap_alloc_new]
    · have := heap_alloc_new (w.alloc (.cells #[.string s] 9)) (.cells #[.int .i64 0] 3)
      show _ = _
      simpa using this)
  have HB := Lib.hid (show Below w.heap.size w ((w.alloc (.cells #[.string s] 9)).alloc (.cells #[.int .i64 0] 3)) from Below.step (al _ _) (al _ _))
  go_enter Try.func38, Try.ntmps38
  go_wp2_with fail
  go_ret
  exact ⟨_, _, rfl, HC.out, by omega, by omega, HB.out⟩
/-- so many bytes from i on, as a number -/
def num (l : List UInt8) (i : Nat) : Nat → Nat
  | 0 => 0
  | k + 1 => num l i k * 256 + gt l (i + k)
theorem num4 (l : List UInt8) (i : Nat) : num l i 4 = rd4 l i := by simp [num, rd4]
theorem num_lt (l : List UInt8) (i : Nat) : ∀ k, num l i k < 256 ^ k
  | 0 => by simp [num]
  | k + 1 => by
    have h1 := num_lt l i k
    have h2 := gt_lt l (i + k)
    rw [num, Nat.pow_succ]
    omega
theorem or_nat (a b : Nat) (h1 : b < 256) (h3 : a * 256 < 4294967296) : bits .or .i64 ((a : Int) * 256) (b : Int) = ((a * 256 + b : Nat) : Int) := by
  have hx : (a * 256) ||| b < 2 ^ 32 := Nat.or_lt_two_pow (by omega) (by omega)
  have e : (a * 256) ||| b = a * 256 + b := by
    have := Nat.shiftLeft_add_eq_or_of_lt (show b < 2 ^ 8 by omega) a
    rw [Nat.shiftLeft_eq] at this
    exact this.symm
  have o : ∀ n : Nat, n < 4294967296 → (BitVec.ofInt 64 (n : Int)).toNat = n := fun n hn => by simp; omega
  show IntKind.i64.wrap ((BitVec.ofInt 64 ((a : Int) * 256) ||| BitVec.ofInt 64 (b : Int)).toNat : Int) = _
  rw [show (a : Int) * 256 = ((a * 256 : Nat) : Int) by omega, BitVec.toNat_or, o (a * 256) h3, o b (by omega), ← e]
  exact IntWalk.i64_in _ (by omega)
theorem Rd.one {w : World} {x y : Nat} {s : ByteArray} {i : Nat} (h : Rd w x y s i) : Rd (w.setCell ⟨y, 0, none⟩ (.int .i64 ((i : Int) + 1))) x y s (i + 1) := by
  have := h.set (i + 1)
  rwa [show (((i + 1 : Nat)) : Int) = (i : Int) + 1 by omega] at this
set_option maxRecDepth 100000 in
set_option maxHeartbeats 1600000 in
theorem next_any (w : World) (x y : Nat) (s : ByteArray) (i : Nat) (h : Rd w x y s i) (hi : i + 4 ≤ s.size) (hs : s.size ≤ 1000) :
    Calls Try.prog 46 #[.pointer (some ⟨x, 0, none⟩), .pointer (some ⟨y, 0, none⟩)] w fun ex w' => ex = .returned (.int .i64 (rd4 (bl s) i : Int)) ∧ Rd w' x y s (i + 4) ∧ Only y w w' := by
  rw [← num4]
  have j0 : Rd w x y s (i + 0) ∧ Only y w w := ⟨h, Only.refl w y⟩
  go_enter Try.func46, Try.ntmps46
  go_wp2_with fail
  go_loopw [3, 4] (fun v z wr => ∃ k : Nat, k ≤ 4 ∧ z = .int .i64 k ∧ v = .int .i64 (num (bl s) i k : Int) ∧ Rd wr x y s (i + k) ∧ Only y w wr) (fun _ z _ => 4 - (intOf z).toNat)
  case atStart => exact ⟨0, by omega, rfl, rfl, j0⟩
  case round =>
    clear j0
    obtain ⟨k, hk, rfl, rfl, hr, ho⟩ := hrel
    by_cases hlt : k < 4
    · have ca : wr.cell? ⟨x, 0, none⟩ = some (.string s) := by rw [hr.a.cell]; rfl
      have cb : wr.cell? ⟨y, 0, none⟩ = some (.int .i64 ((i + k : Nat) : Int)) := by rw [hr.b.cell]; rfl
      have fb := hr.b.frozen 0
      have hn := num_lt (bl s) i k
      have hn2 : num (bl s) i k < 16777216 := by
        have h2 : 256 ^ k ≤ 256 ^ 3 := Nat.pow_le_pow_right (by omega) (by omega)
        omega
      have HN := Lib.hid (show num (bl s) i (k + 1) = num (bl s) i k * 256 + (s[i + k]'(by omega)).toNat from by
        rw [num, gt_get (bl s) (i + k) (by rw [bl_len]; omega)]
        rfl)
      clear hn
      generalize num (bl s) i k = r at *
      go_wp2_with fail
      go_roundw
      case rel =>
        refine ⟨k + 1, by omega, by go_num, ?_, ?_, ?_⟩
        · have hb := UInt8.toNat_lt (s[i + k]'(by omega))
          first | rw [or_nat _ _ (by omega) (by omega), HN.out] | rw [IntWalk.wrap64_in (((s[i + k]'(by omega)).toNat : Nat) : Int) (by omega), or_nat _ _ (by omega) (by omega), HN.out]
        · exact hr.one
        · exact ho.set 0 _
      case measure => simp [intOf]; omega
    · obtain rfl : k = 4 := by omega
      go_wp2_with fail
      go_ret
      exact ⟨rfl, hr, ho⟩
/-- what a page's cell tells -/
def toldS (p : Pg) : Option Sp := match p.cells with
  | [c] => if c.size = 12 then some ⟨p.epoch, rd4 (bl c) 0, rd4 (bl c) 4, rd4 (bl c) 8⟩ else none
  | _ => none
def oS : Option Sp → Value
  | some x => .tuple #[sv x, .bool true]
  | none => .tuple #[sv zer, .bool false]
/-- the box of told's page, and its result's -/
structure Tw (W : World) (p : Pg) (A : Option Addr) (c : Nat) (w : World) : Prop where
  pg : PgAt w W.heap.size p A c
  z : Bs w (W.heap.size + 1) zer
  base : Below W.heap.size W w
theorem Tw.below {W w w' : World} {p : Pg} {A : Option Addr} {c : Nat} (h : Tw W p A c w) (hb : Below w.heap.size w w') : Tw W p A c w' :=
  ⟨at_below h.pg hb, h.z.below hb, h.base.trans (hb.mono h.base.size)⟩
theorem Tw.only {W w w' : World} {p : Pg} {A : Option Addr} {c y : Nat} (h : Tw W p A c w) (ho : Only y w w') (hy : W.heap.size + 2 ≤ y) (hl : y < w.heap.size) : Tw W p A c w' :=
  ⟨at_only h.pg ho (by omega), h.z.only ho (by omega), h.base.trans (ho.below (by omega) hl)⟩
theorem tw_new (W : World) (p : Pg) (A : Option Addr) (c : Nat) : Tw W p A c ((W.alloc (.cells #[.int .i64 p.kind, .int .i64 p.no, .int .i64 p.epoch, .int .i64 p.link, .slice A p.cells.length c] 37)).alloc (.cells #[.int .i64 0, .int .i64 0, .int .i64 0, .int .i64 0] 23)) := by
  refine ⟨?_, ?_, Below.step (al _ _) (al _ _)⟩
  · exact at_below (heap_alloc_new W _) (al _ _)
  · have h := bs_new (W.alloc (.cells #[.int .i64 p.kind, .int .i64 p.no, .int .i64 p.epoch, .int .i64 p.link, .slice A p.cells.length c] 37)) zer
    rw [show (W.alloc _).heap.size = W.heap.size + 1 from Array.size_push _] at h
    exact h
set_option maxRecDepth 100000 in
set_option maxHeartbeats 3200000 in
theorem told_any (W : World) (p : Pg) (A : Option Addr) (c : Nat) (hr : Row W W.heap.size A (strs p.cells)) : Calls Try.prog 23 #[pv p A c] W fun e w' => e = .returned (oS (toldS p)) ∧ Below W.heap.size W w' := by
  have t0 := tw_new W p A c
  obtain ⟨w1, hw1⟩ : ∃ v, v = ((W.alloc (.cells #[.int .i64 p.kind, .int .i64 p.no, .int .i64 p.epoch, .int .i64 p.link, .slice A p.cells.length c] 37)).alloc (.cells #[.int .i64 0, .int .i64 0, .int .i64 0, .int .i64 0] 23)) := ⟨_, rfl⟩
  rw [← hw1] at t0
  have HW := Lib.hid hw1
  clear hw1
  obtain ⟨d0, d1, d2, d3, d4⟩ := five t0.pg
  by_cases hone : p.cells.length = 1
  rotate_left
  · have hn : toldS p = none := by
      unfold toldS
      split
      · rename_i h; rw [h] at hone; exact absurd rfl hone
      · rfl
    rw [hn]
    have hne : ((p.cells.length : Int) = 1) = False := by rw [eq_iff_iff]; exact ⟨fun h => by omega, fun h => h.elim⟩
    have HB := Lib.hid t0.z
    have HD := Lib.hid t0.base
    clear hr t0 hn
    unfold pv
    generalize p.cells.length = n at *
    generalize hbx : W.heap.size = bx at *
    have z0 := At.frozen HB.out 0
    have z1 := At.frozen HB.out 1
    have z2 := At.frozen HB.out 2
    have z3 := At.frozen HB.out 3
    obtain ⟨c0, c1, c2, c3⟩ := HB.out.cells
    go_enter Try.func23, Try.ntmps23
    go_upto_region 1 with fail
    try rw [← HW.out]
    try rw [hbx]
    go_wp2_with fail
    refine bodyPost_ret (results_cell_tmp_row rfl _ _ (bx + 1) 23 _ (0, 0) _ rfl (bs_over HB.out zer) Try.underlying23 rfl (by kernel_rfl)) rfl ?_
    exact ⟨rfl, below_over HD.out (by omega) zer⟩
  obtain ⟨q, hq⟩ : ∃ q, p.cells = [q] := by
    match h : p.cells, hone with
    | [q], _ => exact ⟨q, rfl⟩
  rw [hq] at hr
  obtain ⟨ad, rfl, hb0, hcq⟩ := strs_get hr 0 (by simp)
  have hcq1 : w1.cell? ad = some (.string q) := by
    have h := (t0.base.cell (p := ad) hb0).trans (by simpa [Addr.add] using hcq)
    exact h
  have hlen : ((p.cells.length : Nat) : Int) = 1 := by rw [hone]; rfl
  have ht : toldS p = if q.size = 12 then some ⟨p.epoch, rd4 (bl q) 0, rd4 (bl q) 4, rd4 (bl q) 8⟩ else none := by unfold toldS; rw [hq]
  rw [ht]
  unfold pv
  rw [hone] at *
  clear hr hcq hone hlen ht hq
  by_cases h12 : q.size = 12
  rotate_left
  · rw [if_neg h12]
    have hne : ((q.size : Int) = 12) = False := by rw [eq_iff_iff]; exact ⟨fun h => by omega, fun h => h.elim⟩
    have HB := Lib.hid t0.z
    have HD := Lib.hid t0.base
    clear t0
    generalize hbx : W.heap.size = bx at *
    have z0 := At.frozen HB.out 0
    have z1 := At.frozen HB.out 1
    have z2 := At.frozen HB.out 2
    have z3 := At.frozen HB.out 3
    obtain ⟨c0, c1, c2, c3⟩ := HB.out.cells
    go_enter Try.func23, Try.ntmps23
    go_upto_region 1 with fail
    try rw [← HW.out]
    try rw [hbx]
    go_wp2_with fail
    refine bodyPost_ret (results_cell_tmp_row rfl _ _ (bx + 1) 23 _ (0, 0) _ rfl (bs_over HB.out zer) Try.underlying23 rfl (by kernel_rfl)) rfl ?_
    exact ⟨rfl, below_over HD.out (by omega) zer⟩
  rw [if_pos h12]
  have hlt := t0.z.lt
  have hi12 : ((q.size : Nat) : Int) = 12 := by omega
  have hcall := reader_any w1 q
  obtain ⟨n0, hn0⟩ : ∃ n, n = rd4 (bl q) 0 := ⟨_, rfl⟩
  obtain ⟨n4, hn4⟩ : ∃ n, n = rd4 (bl q) 4 := ⟨_, rfl⟩
  obtain ⟨n8, hn8⟩ : ∃ n, n = rd4 (bl q) 8 := ⟨_, rfl⟩
  rw [← hn0, ← hn4, ← hn8]
  have HN := Lib.hid (And.intro hn0 (And.intro hn4 hn8))
  have H12 := Lib.hid h12
  clear hn0 hn4 hn8 h12
  have HT := Lib.hid t0
  clear t0
  generalize hbx : W.heap.size = bx at hcall d0 d1 d2 d3 d4 hlt ⊢
  have HX := Lib.hid hbx
  go_enter Try.func23, Try.ntmps23
  go_upto_region 1 with fail
  try rw [← HW.out]
  try rw [hbx]
  clear hbx
  go_wp2_with fail
  (with_reducible refine hcall.mono ?_)
  clear hcall d0 d1 d2 d3 d4 hcq1 hi12
  rintro e w2 ⟨x, y, rfl, hr2, hx2, hy2, hb2⟩
  have t2 := HT.out.below hb2
  have hy : y < w2.heap.size := At.lt hr2.b
  have hcall := next_any w2 x y q 0 hr2 (by rw [H12.out]; omega) (by rw [H12.out]; omega)
  rw [← HN.out.1] at hcall
  have HY := Lib.hid (show W.heap.size + 2 ≤ y from by have := HX.out; omega)
  clear hr2 hx2 hy2 hb2 hlt HT
  go_wp2_with fail
  (with_reducible refine hcall.mono ?_)
  clear hcall
  rintro e w3 ⟨rfl, hr3, ho3⟩
  have t3 := t2.only ho3 HY.out hy
  have hy3 : y < w3.heap.size := At.lt hr3.b
  have hcall := next_any w3 x y q 4 hr3 (by rw [H12.out]; omega) (by rw [H12.out]; omega)
  rw [← HN.out.2.1] at hcall
  clear hr3 ho3 t2 hy
  go_wp2_with fail
  (with_reducible refine hcall.mono ?_)
  clear hcall
  rintro e w4 ⟨rfl, hr4, ho4⟩
  have t4 := t3.only ho4 HY.out hy3
  have hy4 : y < w4.heap.size := At.lt hr4.b
  have hcall := next_any w4 x y q 8 hr4 (by rw [H12.out]; omega) (by rw [H12.out]; omega)
  rw [← HN.out.2.2] at hcall
  clear hr4 ho4 t3 hy3
  go_wp2_with fail
  (with_reducible refine hcall.mono ?_)
  clear hcall
  rintro e w5 ⟨rfl, hr5, ho5⟩
  have t5 := t4.only ho5 HY.out hy4
  clear hr5 ho5 t4 hy4
  have hz5 := t5.z
  have hp5 := t5.pg
  have hB5 := t5.base
  rw [HX.out] at hz5 hp5 hB5
  clear t5
  obtain ⟨d0, d1, d2, d3, d4⟩ := five hp5
  have z0 := At.frozen hz5 0
  have z1 := At.frozen hz5 1
  have z2 := At.frozen hz5 2
  have z3 := At.frozen hz5 3
  obtain ⟨c0, c1, c2, c3⟩ := hz5.cells
  go_wp2_with fail
  refine bodyPost_ret (results_cell_tmp_row rfl _ _ (bx + 1) 23 _ (0, 0) _ rfl (bs_over hz5 ⟨p.epoch, n0, n4, n8⟩) Try.underlying23 rfl (by kernel_rfl)) rfl ?_
  exact ⟨rfl, below_over hB5 (by omega) ⟨p.epoch, n0, n4, n8⟩⟩
end Go.Proofs.Ytcnblgienombeaa.SuperTold
