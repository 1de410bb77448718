/- Cuts of a slice of bytes; the contract of told. -/
import Derived.Test.YtcnblgienombeaaPageTold
import Derived.RegionTactic
namespace Go.Proofs.Ytcnblgienombeaa.PageTold2
open Go.RowKit Base PagePlain PageSmall PageBytes PageLay PagePut PageCut PageTold SumMem SumOf

theorem set5 {w : World} {g : Nat} {t : TypeId} {cs : Array Value} (h : At w g t cs) (hs : cs.size = 5) (a b c d e : Value) :
    At (((((w.setCell ⟨g, 0, none⟩ a).setCell ⟨g, 1, none⟩ b).setCell ⟨g, 2, none⟩ c).setCell ⟨g, 3, none⟩ d).setCell ⟨g, 4, none⟩ e) g t #[a, b, c, d, e] := by
  obtain ⟨l⟩ := cs
  match l, hs, h with
  | [x0, x1, x2, x3, x4], _, h =>
    have q : (((((List.toArray [x0, x1, x2, x3, x4]).setIfInBounds 0 a).setIfInBounds 1 b).setIfInBounds 2 c).setIfInBounds 3 d).setIfInBounds 4 e = #[a, b, c, d, e] := rfl
    rw [← q]
    exact ((((h.set 0 a).set 1 b).set 2 c).set 3 d).set 4 e
theorem below5 {W w : World} {B g : Nat} (h : Below B W w) (hg : B ≤ g) (a b c d e : Value) :
    Below B W (((((w.setCell ⟨g, 0, none⟩ a).setCell ⟨g, 1, none⟩ b).setCell ⟨g, 2, none⟩ c).setCell ⟨g, 3, none⟩ d).setCell ⟨g, 4, none⟩ e) :=
  ((((h.setCell (by exact hg) a).setCell (by exact hg) b).setCell (by exact hg) c).setCell (by exact hg) d).setCell (by exact hg) e
theorem results_cell_tmp_row {P : Program} {fn : Func} {p u : Tmp} {ty : TypeId} (h : fn.results = #[.cell p ty, .tmp u]) (tmps : Array Value) (w : World) (g : Nat) (t : TypeId) (cs : Array Value) (fr : Nat × Nat) (d : TypeDesc)
    (hp : tmps.getD p undef = .pointer (some ⟨g, 0, none⟩)) (hg : w.heap[g]? = some (.cells cs t fr))
    (hu : P.underlying ty = some d) (hd : (match d with | .struct _ | .array _ _ => true | _ => false) = true) (hi : (P.info? ty).map (·.size) = some cs.size) :
    (results fn tmps).run P w = .ok (.tuple #[.agg cs, tmps.getD u undef]) w := by
  rw [results_cell_tmp h, hp]
  simp [asAddr, run_loadVar_row w g t ty cs fr d hg hu hd hi, Result.andThen]
theorem size_u8 (w : World) : (sizeOf (Try.prog.elem 27)).run Try.prog w = .ok 1 w := by kernel_rfl
theorem under_u8 : Try.prog.underlying 27 = some (.slice (Try.prog.elem 27)) := by kernel_rfl
theorem bv_drop {l : List UInt8} {i j : Nat} {v : Value} (h : (bv (l.drop i))[j]? = some v) : (bv l)[i + j]? = some v := by
  simpa only [bv, List.getElem?_map, List.getElem?_drop] using h
theorem row_drop {w : World} {B : Nat} {ad : Addr} {l : List UInt8} (h : Row w B (some ad) (bv l)) (i : Nat) : Row w B (some (ad.add i)) (bv (l.drop i)) := fun j v hv => by
  obtain ⟨ad', e, h1, h2⟩ := h _ v (bv_drop hv)
  injection e with e
  subst e
  exact ⟨_, rfl, by rw [blk_add]; exact h1, by rw [add_add_]; exact h2⟩
theorem sl_l (ad : Addr) (n c k : Nat) (hn : k ≤ n) (hk : k < c) (x : Int) (hx : x = k) (w : World) : (Instr.slice 27 (.slice (some ad) n c) (some (.int .i64 x)) none none).run Try.prog w = .ok (.slice (some (ad.add k)) (n - k) (c - k)) w := by
  subst hx
  rw [run_slice_l w 27 (some ad) n c under_u8 .i64 k (by omega) (by omega), size_u8]
  simp only [sliced, Result.andThen, Int.toNat_natCast, Nat.mul_one]
  rw [if_neg (by omega)]
  rfl
theorem sl_h (ad : Addr) (n c k : Nat) (hk : 0 < k) (hc : k ≤ c) (x : Int) (hx : x = k) (w : World) : (Instr.slice 27 (.slice (some ad) n c) none (some (.int .i64 x)) none).run Try.prog w = .ok (.slice (some ad) k c) w := by
  subst hx
  rw [run_slice_h w 27 (some ad) n c under_u8 .i64 k (by omega) (by omega), size_u8]
  have h0 : ¬ (c = 0) := by omega
  simp [sliced, Result.andThen, h0, Addr.add]
theorem gt_drop (l : List UInt8) (n i : Nat) : gt (l.drop n) i = gt l (n + i) := by unfold gt; rw [List.getElem?_drop]
theorem rd4_drop (l : List UInt8) (n : Nat) : rd4 (l.drop n) 0 = rd4 l n := by simp [rd4, gt_drop]
theorem rd4_lt (l : List UInt8) (n : Nat) : rd4 l n < 4294967296 := by
  have h0 := gt_lt l n
  have h1 := gt_lt l (n + 1)
  have h2 := gt_lt l (n + 2)
  have h3 := gt_lt l (n + 3)
  unfold rd4
  omega
def fv (l : List UInt8) (j : Nat) : Array Value := #[.int .i64 (if 0 < j then (rd4 l 2 : Nat) else 0 : Int), .int .i64 (if 1 < j then (rd4 l 6 : Nat) else 0 : Int), .int .i64 (if 2 < j then (rd4 l 10 : Nat) else 0 : Int)]
theorem fv_at (l : List UInt8) (j : Nat) (hj : j < 3) : (fv l j)[j]? = some (.int .i64 0) := by
  match j, hj with
  | 0, _ => rfl
  | 1, _ => rfl
  | 2, _ => rfl
theorem fv_set (l : List UInt8) (j : Nat) (hj : j < 3) : (fv l j).setIfInBounds j (.int .i64 (rd4 l (2 + 4 * j) : Nat)) = fv l (j + 1) := by
  match j, hj with
  | 0, _ => rfl
  | 1, _ => rfl
  | 2, _ => rfl
abbrev nop : Value := .agg #[.int .i64 0, .int .i64 0, .int .i64 0, .int .i64 0, .slice none 0 0]
/-- what told tells -/
def ToldPost (W : World) (l : List UInt8) (e : Ending) (w' : World) : Prop :=
  Below W.heap.size W w' ∧ match told l with
  | none => e = .returned (.tuple #[nop, .bool false])
  | some p => ∃ A' c', e = .returned (.tuple #[pv p A' c', .bool true]) ∧ Own w' W.heap.size 9 A' c' (strs p.cells)
theorem told_cells (l : List UInt8) : told l = (tcells l).map fun cs => ⟨gt l 0, rd4 l 2, rd4 l 6, rd4 l 10, cs⟩ := by
  unfold told tcells
  by_cases h : 236 < 2 * gt l 1
  · rw [if_pos h, if_pos h]; rfl
  · rw [if_neg h, if_neg h]
/-- what stands between two rounds of told -/
structure TRel (W : World) (w1 : World) (b : Nat) (l : List UInt8) (j : Nat) (w : World) : Prop where
  z : At w W.heap.size 37 #[.int .i64 0, .int .i64 0, .int .i64 0, .int .i64 0, .slice none 0 0]
  f : At w b 93 (fv l j)
  b1 : Below w1.heap.size w1 w
  bl : Below W.heap.size W w

set_option maxRecDepth 100000 in
set_option maxHeartbeats 3200000 in
theorem told_any (w : World) (ad : Addr) (l : List UInt8) (c m : Nat) (hm : m = l.length) (hrow : Row w w.heap.size (some ad) (bv l)) (hl : l.length = 256) (hc : l.length ≤ c) :
    Calls Try.prog 36 #[.slice (some ad) m c] w (ToldPost w l) := by
  subst hm
  have HT := Lib.hid (told_cells l)
  have hb0 : Below w.heap.size w (w.alloc (.cells #[.int .i64 0, .int .i64 0, .int .i64 0, .int .i64 0, .slice none 0 0] 37)) := (Below.refl _ _).alloc (Nat.le_refl _) _
  have hz0 : At (w.alloc (.cells #[.int .i64 0, .int .i64 0, .int .i64 0, .int .i64 0, .slice none 0 0] 37)) w.heap.size 37 #[.int .i64 0, .int .i64 0, .int .i64 0, .int .i64 0, .slice none 0 0] := heap_alloc_new w _
  have hcl := cells_any (w.alloc (.cells #[.int .i64 0, .int .i64 0, .int .i64 0, .int .i64 0, .slice none 0 0] 37)) (some ad) l c _ rfl (hrow.belowSize hb0) hl hc
  have HL := Lib.hid hl
  clear hl
  unfold CellsPost at hcl
  cases htc : tcells l with
  | none =>
    rw [htc] at hcl HT
    go_enter Try.func36, Try.ntmps36
    go_wp2_with fail
    refine hcl.mono ?_
    rintro e w1 ⟨hb1, rfl⟩
    have hz1 := (hb1.block _ (At.lt hz0)).trans hz0
    have hb := Below.step hb0 hb1
    have HZ := Lib.hid (set5 hz1 rfl (.int .i64 0) (.int .i64 0) (.int .i64 0) (.int .i64 0) (.slice none 0 0))
    have k0 : w1.cell? ⟨w.heap.size, 0, none⟩ = some (.int .i64 0) := by rw [At.cell hz1]; rfl
    have k1 : w1.cell? ⟨w.heap.size, 1, none⟩ = some (.int .i64 0) := by rw [At.cell hz1]; rfl
    have k2 : w1.cell? ⟨w.heap.size, 2, none⟩ = some (.int .i64 0) := by rw [At.cell hz1]; rfl
    have k3 : w1.cell? ⟨w.heap.size, 3, none⟩ = some (.int .i64 0) := by rw [At.cell hz1]; rfl
    have k4 : w1.cell? ⟨w.heap.size, 4, none⟩ = some (.slice none 0 0) := by rw [At.cell hz1]; rfl
    have z0 := At.frozen hz1 0
    have z1 := At.frozen hz1 1
    have z2 := At.frozen hz1 2
    have z3 := At.frozen hz1 3
    have z4 := At.frozen hz1 4
    clear hcl htc hb0 hb1 hz0 hz1
    go_wp2_with fail
    refine bodyPost_ret (results_cell_tmp_row rfl _ _ w.heap.size 37 _ (0, 0) _ rfl HZ.out Try.underlying37 rfl (by kernel_rfl)) rfl ?_
    refine ⟨below5 hb (Nat.le_refl _) _ _ _ _ _, ?_⟩
    · rw [HT.out]
      rfl
  | some cs =>
    rw [htc] at hcl HT
    have HT2 := Lib.hid (show told l = some ⟨gt l 0, rd4 l 2, rd4 l 6, rd4 l 10, cs⟩ from HT.out)
    clear HT
    go_enter Try.func36, Try.ntmps36
    go_wp2_with fail
    refine hcl.mono ?_
    rintro e w1 ⟨hb1, A', c', rfl, hown⟩
    have hz1 := (hb1.block _ (At.lt hz0)).trans hz0
    have hb := Below.step hb0 hb1
    have hown1 : Own w1 (w.heap.size + 1) 9 A' c' (strs cs) := by simpa using hown
    clear hcl htc hb0 hb1 hz0 hown
    have R0 : TRel w w1 w1.heap.size l 0 (w1.alloc (.cells #[.int .i64 0, .int .i64 0, .int .i64 0] 93)) := by
      refine ⟨?_, heap_alloc_new w1 _, (Below.refl _ _).alloc (Nat.le_refl _) _, hb.alloc hb.size _⟩
      exact (Below.heap_alloc w1 _ _ (At.lt hz1)).trans hz1
    have hw1 := At.lt hz1
    have hbs := hb.size
    clear hz1 hb
    go_wp2_with fail
    go_loopw [16] (fun i wr => ∃ j : Nat, j ≤ 3 ∧ i = .int .i64 j ∧ TRel w w1 w1.heap.size l j wr) (fun i _ => 3 - (intOf i).toNat)
    case atStart => exact ⟨0, by omega, rfl, R0⟩
    case round =>
      clear R0
      obtain ⟨j, hj, rfl, hrel⟩ := hrel
      by_cases hlt : j < 3
      · have hrw : Row wr w.heap.size (some ad) (bv l) := hrow.below hrel.bl
        have hcut := sl_l ad l.length c (2 + 4 * j) (by rw [HL.out]; omega) (by have := HL.out; omega) (2 + (j : Int) * 4) (by omega)
        have hrd := read_any wr (some (ad.add (2 + 4 * j))) (l.length - (2 + 4 * j)) (c - (2 + 4 * j)) (l.drop (2 + 4 * j)) (by simp) ((row_drop hrw (2 + 4 * j)).more hrel.bl.size) (by rw [List.length_drop, HL.out]; omega) (by rw [List.length_drop]; omega)
        rw [rd4_drop] at hrd
        have hc0 : wr.cell? ⟨w1.heap.size, j, none⟩ = some (.int .i64 0) := by rw [At.cell hrel.f]; exact fv_at l j hlt
        have hf0 := At.frozen hrel.f j
        have HS := Lib.hid (fv_set l j hlt ▸ At.set hrel.f j (.int .i64 (rd4 l (2 + 4 * j) : Nat)))
        have hr4 := rd4_lt l (2 + 4 * j)
        generalize rd4 l (2 + 4 * j) = r at *
        clear hrw
        go_wp2_with fail
        refine hrd.mono ?_
        rintro e w2 ⟨rfl, rfl⟩
        clear hrd
        go_wp2_with fail
        go_roundw
        case rel => exact ⟨j + 1, by omega, by go_num, at_far hrel.z (by exact Nat.ne_of_lt hw1) _, HS.out, hrel.b1.setCell (by simp) _, hrel.bl.setCell (by exact hbs) _⟩
        case measure => simp [intOf]; omega
      · obtain rfl : j = 3 := by omega
        obtain ⟨a0, hA0, _, cb0⟩ := (hrow.below hrel.bl).get 0 (by rw [bv_len, HL.out]; omega)
        injection hA0 with hA0
        subst hA0
        simp only [bv, List.getElem_map] at cb0
        rw [← gt_get l 0 (by rw [HL.out]; omega), show ad.add 0 = ad by simp [Addr.add]] at cb0
        have q0 : wr.cell? ⟨w1.heap.size, 0, none⟩ = some (.int .i64 (rd4 l 2 : Nat)) := by rw [At.cell hrel.f]; rfl
        have q1 : wr.cell? ⟨w1.heap.size, 1, none⟩ = some (.int .i64 (rd4 l 6 : Nat)) := by rw [At.cell hrel.f]; rfl
        have q2 : wr.cell? ⟨w1.heap.size, 2, none⟩ = some (.int .i64 (rd4 l 10 : Nat)) := by rw [At.cell hrel.f]; rfl
        have k0 : wr.cell? ⟨w.heap.size, 0, none⟩ = some (.int .i64 0) := by rw [At.cell hrel.z]; rfl
        have k1 : wr.cell? ⟨w.heap.size, 1, none⟩ = some (.int .i64 0) := by rw [At.cell hrel.z]; rfl
        have k2 : wr.cell? ⟨w.heap.size, 2, none⟩ = some (.int .i64 0) := by rw [At.cell hrel.z]; rfl
        have k3 : wr.cell? ⟨w.heap.size, 3, none⟩ = some (.int .i64 0) := by rw [At.cell hrel.z]; rfl
        have k4 : wr.cell? ⟨w.heap.size, 4, none⟩ = some (.slice none 0 0) := by rw [At.cell hrel.z]; rfl
        have z0 := At.frozen hrel.z 0
        have z1 := At.frozen hrel.z 1
        have z2 := At.frozen hrel.z 2
        have z3 := At.frozen hrel.z 3
        have z4 := At.frozen hrel.z 4
        have hl1 : 0 < l.length := by rw [HL.out]; omega
        have hl0 : (0 : Int) < (l.length : Int) := by have := HL.out; omega
        have g0 := gt_lt l 0
        have HOW := Lib.hid (own_more (own_set (own_set (own_set (own_set (own_set (hown1.later hrel.b1) ⟨w.heap.size, 0, none⟩ (Nat.lt_succ_self _) (.int .i64 (gt l 0 : Nat))) ⟨w.heap.size, 1, none⟩ (Nat.lt_succ_self _) (.int .i64 (rd4 l 2 : Nat)))
          ⟨w.heap.size, 2, none⟩ (Nat.lt_succ_self _) (.int .i64 (rd4 l 6 : Nat))) ⟨w.heap.size, 3, none⟩ (Nat.lt_succ_self _) (.int .i64 (rd4 l 10 : Nat))) ⟨w.heap.size, 4, none⟩ (Nat.lt_succ_self _) (.slice A' cs.length c')) (Nat.le_succ w.heap.size))
        have hbl := hrel.bl
        have HZ := Lib.hid (set5 hrel.z rfl (.int .i64 (gt l 0 : Nat)) (.int .i64 (rd4 l 2 : Nat)) (.int .i64 (rd4 l 6 : Nat)) (.int .i64 (rd4 l 10 : Nat)) (.slice A' cs.length c'))
        clear hrel hown1
        generalize gt l 0 = v0 at *
        generalize rd4 l 2 = v1 at *
        generalize rd4 l 6 = v2 at *
        generalize rd4 l 10 = v3 at *
        go_wp2_with fail
        go_region
        all_goals
          go_wp2_with fail
          refine bodyPost_ret (results_cell_tmp_row rfl _ _ w.heap.size 37 _ (0, 0) _ rfl HZ.out Try.underlying37 rfl (by kernel_rfl)) rfl ?_
          refine ⟨(below5 hbl (Nat.le_refl _) _ _ _ _ _).drew, ?_⟩
          rw [HT2.out]
          exact ⟨A', c', rfl, HOW.out⟩
end Go.Proofs.Ytcnblgienombeaa.PageTold2
