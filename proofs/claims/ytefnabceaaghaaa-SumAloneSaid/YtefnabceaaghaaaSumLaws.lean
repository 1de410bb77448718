/- Walks of layer 2's laws. -/
import Derived.Test.YtefnabceaaghaaaSumAwake
import Derived.BigRegion
namespace Go.Proofs.Ytefnabceaaghaaa.SumLaws
open Go.RowKit SumPlain Base SumLeft SumMem SumFill SumOf SumAwake

/-- what each law comes to -/
def Law (w : World) (e : Ending) (w' : World) : Prop := e = .returned (.bool true) ∧ Below w.heap.size w w'
theorem awakeL {w w1 : World} (hb : Below w.heap.size w w1) : Calls Try.prog 10 #[] w1 fun e w' => e = .returned (.bool true) ∧ Below w1.heap.size w1 w' ∧ Below w.heap.size w w' :=
  (awake_any w1).mono fun _ _ ⟨h1, h2⟩ => ⟨h1, h2, Below.step hb h2⟩
abbrev bl (s : ByteArray) : List UInt8 := s.data.toList
theorem bl_len (s : ByteArray) : (bl s).length = s.size := rfl
theorem bytes_run (g : Nat) (w : World) (hg : g < w.heap.size) (s : ByteArray) : ∃ C W1, (convert 9 28 (.string s)).run Try.prog w = .ok (.slice (some ⟨w.heap.size, 0, none⟩) s.size C) W1 ∧ s.size ≤ C ∧ RowX W1 g (some ⟨w.heap.size, 0, none⟩) (bv (bl s)) ∧
    Below w.heap.size w W1 ∧ w.heap.size < W1.heap.size ∧ ∀ j, j < s.size → W1.frozen? ⟨w.heap.size, j, none⟩ = false := by
  obtain ⟨C, W, hrun, hC, hb, hsz, hrow, hfz⟩ := conv_string (P := Try.prog) w s Try.underlying9 Try.underlying28 Try.underlying5
  exact ⟨C, W, hrun, hC, RowX.ofRow hrow (by omega) (by omega), hb, by omega, hfz⟩

/-- cuts of a slice of bytes -/
theorem add_add_ (a : Addr) (i k : Nat) : (a.add i).add k = a.add (i + k) := by
  by_cases h1 : i = 0
  · subst h1; simp [Addr.add]
  · by_cases h2 : k = 0
    · subst h2; simp [Addr.add]
    · simp [Addr.add, h1, h2, Nat.add_assoc]
theorem row_cut {w : World} {g : Nat} {ad : Addr} {l : List UInt8} {C : Nat} (h : RowX w g (some ad) (bv l)) (i k : Nat) (hC : l.length ≤ C) : RowX w g (if C = i then some ad else (some ad).map (·.add (i * 1))) (bv ((l.drop i).take k)) := fun j v hv => by
  have hv2 : (bv l)[i + j]? = some v := by
    simp only [bv, List.getElem?_map, List.getElem?_take, List.getElem?_drop] at hv ⊢
    split at hv
    · exact hv
    · cases hv
  obtain ⟨ad', e, h1, h2, h3⟩ := h (i + j) v hv2
  injection e with e
  subst e
  have hlt : i + j < l.length := by
    rcases Nat.lt_or_ge (i + j) l.length with q | q
    · exact q
    · rw [List.getElem?_eq_none (by simpa [bv] using q)] at hv2; cases hv2
  rw [if_neg (by omega)]
  exact ⟨ad.add (i * 1), rfl, by rw [blk_add]; exact h1, by rw [blk_add]; exact h2, by rw [Nat.mul_one, add_add_]; exact h3⟩
theorem size_u8 (w : World) : (sizeOf (Try.prog.elem 28)).run Try.prog w = .ok 1 w := by
  have h : (Try.prog.info? (Try.prog.elem 28)).map (fun i => i.size) = some 1 := by kernel_rfl
  cases hi : Try.prog.info? (Try.prog.elem 28) with
  | none => rw [hi] at h; cases h
  | some i => rw [hi] at h; injection h with h; simp [sizeOf, typeInfo, hi, h]
theorem under_u8 : Try.prog.underlying 28 = some (.slice (Try.prog.elem 28)) := by kernel_rfl
theorem cut_h {w : World} {g : Nat} {ad : Addr} {l : List UInt8} {C : Nat} (h : RowX w g (some ad) (bv l)) (hC : l.length ≤ C) (n i : Nat) (hi : i ≤ l.length) : ∃ A, (∀ w' : World, (Instr.slice 28 (.slice (some ad) n C) none (some (.int .i64 (i : Int))) none).run Try.prog w' = .ok (.slice A i C) w') ∧ RowX w g A (bv (l.take i)) := by
  refine ⟨_, fun w' => ?_, by simpa using row_cut h 0 i hC⟩
  rw [run_slice_h w' 28 (some ad) n C under_u8 .i64 i (by omega) (by omega), size_u8]
  simp [sliced, Result.andThen]
theorem cut_lh {w : World} {g : Nat} {ad : Addr} {l : List UInt8} {C : Nat} (h : RowX w g (some ad) (bv l)) (hC : l.length ≤ C) (n i k : Nat) (hi : i ≤ k) (hk : k ≤ l.length) : ∃ A, (∀ w' : World, (Instr.slice 28 (.slice (some ad) n C) (some (.int .i64 (i : Int))) (some (.int .i64 (k : Int))) none).run Try.prog w' = .ok (.slice A (k - i) (C - i)) w') ∧ RowX w g A (bv ((l.drop i).take (k - i))) := by
  refine ⟨_, fun w' => ?_, row_cut h i (k - i) hC⟩
  rw [run_slice_lh w' 28 (some ad) n C under_u8 .i64 .i64 i k (by omega) (by omega) (by omega), size_u8]
  simp [sliced, Result.andThen]
theorem cut_l {w : World} {g : Nat} {ad : Addr} {l : List UInt8} {C : Nat} (h : RowX w g (some ad) (bv l)) (hC : l.length ≤ C) (n k : Nat) (hn : n = l.length) (hk : k ≤ l.length) : ∃ A, (∀ w' : World, (Instr.slice 28 (.slice (some ad) n C) (some (.int .i64 (k : Int))) none none).run Try.prog w' = .ok (.slice A (n - k) (C - k)) w') ∧ RowX w g A (bv (l.drop k)) := by
  refine ⟨_, fun w' => ?_, by have := row_cut h k l.length hC; rwa [List.take_of_length_le (by rw [List.length_drop]; omega)] at this⟩
  rw [run_slice_l w' 28 (some ad) n C under_u8 .i64 k (by omega) (by omega), size_u8]
  simp [sliced, Result.andThen]

theorem ready_of {w : World} {g : Nat} {n : Int} (h : Done w g n) : Ready w g n := .inr h
theorem parts3 (g : Nat) (n : Int) (w : World) (A1 A2 A3 : Option Addr) (c1 c2 c3 n1 n2 n3 : Nat) (l1 l2 l3 l : List UInt8) (h : Ready w g n) (h0 : 0 ≤ n) (hn : n ≤ 900000000) (hl : l1 ++ (l2 ++ l3) = l) (hz : l.length ≤ 1000000) (hg : g < w.heap.size)
    (e1 : n1 = l1.length) (e2 : n2 = l2.length) (e3 : n3 = l3.length) (r1 : RowX w g A1 (bv l1)) (r2 : RowX w g A2 (bv l2)) (r3 : RowX w g A3 (bv l3)) :
    Calls Try.prog 14 #[.pointer (some ⟨g, 0, none⟩), .slice (some ⟨w.heap.size, 0, none⟩) 3 3] (w.alloc (.cells #[Value.slice A1 n1 c1, .slice A2 n2 c2, .slice A3 n3 c3] 28)).drew fun e w' => e = .returned (.int .u32 (sum l : Nat)) ∧ Done w' g (n + l.length) ∧ Only g w w' := by
  subst hl e1 e2 e3
  have hb : Below w.heap.size w (w.alloc (.cells #[Value.slice A1 l1.length c1, .slice A2 l2.length c2, .slice A3 l3.length c3] 28)).drew := ((Below.refl _ _).alloc (Nat.le_refl _) _).drew
  have hv : RowX (w.alloc (.cells #[Value.slice A1 l1.length c1, .slice A2 l2.length c2, .slice A3 l3.length c3] 28)).drew g (some ⟨w.heap.size, 0, none⟩) [Value.slice A1 l1.length c1, .slice A2 l2.length c2, .slice A3 l3.length c3] :=
    RowX.ofRow (row_of_block (heap_alloc_new w _)) (by simp) (by omega)
  have hp : Pieces (w.alloc (.cells #[Value.slice A1 l1.length c1, .slice A2 l2.length c2, .slice A3 l3.length c3] 28)).drew g [Value.slice A1 l1.length c1, .slice A2 l2.length c2, .slice A3 l3.length c3] [l1, l2, l3] := ⟨rfl, fun k l' hk => by
    match k, hk with
    | 0, hk => injection hk with hk; subst hk; exact ⟨A1, c1, rfl, r1.below hb⟩
    | 1, hk => injection hk with hk; subst hk; exact ⟨A2, c2, rfl, r2.below hb⟩
    | 2, hk => injection hk with hk; subst hk; exact ⟨A3, c3, rfl, r3.below hb⟩⟩
  simp only [List.length_append] at hz
  have e : [l1, l2, l3].flatten = l1 ++ (l2 ++ l3) := by simp
  refine (parts_any g n _ _ 3 3 _ [l1, l2, l3] (h.below hb) h0 (by rw [e]; simp only [List.length_append]; omega) (by simp) rfl hv hp (by simp; omega)).mono ?_
  rintro e' w1 ⟨rfl, d1, o1⟩
  rw [e] at d1 ⊢
  exact ⟨rfl, d1, (Only.ofBelow hb).trans o1⟩

theorem mod_facts (x n : Nat) : (x : Int) % ((n : Int) + 1) = ((x % (n + 1) : Nat) : Int) ∧ x % (n + 1) ≤ n := ⟨by simp, by have := Nat.mod_lt x (show 0 < n + 1 by omega); omega⟩
set_option maxRecDepth 100000 in
set_option maxHeartbeats 1600000 in
theorem SumSplit_walk (a : ByteArray) (x y : Nat) (W : World) (hx : x < 65536) (hy : y < 65536) :
    Calls Try.prog 8 #[.string a, .agg #[.int .u16 x, .int .u16 y]] W (Law W) := by
  have hnot : ∀ (x : Bool) (w : World), (Op.unary .not (.bool x)).run Try.prog w = .ok (.bool (!x)) w := fun _ _ => rfl
  have hb0 : Below W.heap.size W (W.alloc (.cells #[.int .u16 x, .int .u16 y] 41)) := (Below.refl _ _).alloc (Nat.le_refl _) _
  have c0 : (W.alloc (.cells #[.int .u16 x, .int .u16 y] 41)).cell? ⟨W.heap.size, 0, none⟩ = some (.int .u16 x) := by simp
  have c1 : (W.alloc (.cells #[.int .u16 x, .int .u16 y] 41)).cell? ⟨W.heap.size, 1, none⟩ = some (.int .u16 y) := by simp
  have HC0 := Lib.hid c0
  have HC1 := Lib.hid c1
  clear c0 c1
  by_cases hl : a.size ≤ 500
  · go_enter Try.func8, Try.ntmps8
    go_wp2_with fail
    refine (new_g _).mono ?_
    rintro e w1 ⟨g, rfl, hg, hg1, s1, b1⟩
    go_wp2_with fail
    refine (awakeL (Below.refl _ w1)).mono ?_
    rintro e w2 ⟨rfl, b2, _⟩
    have s2 := s1.below b2
    have hg2 : g < w2.heap.size := Nat.lt_of_lt_of_le hg1 b2.size
    have b02 := Below.step b1 b2
    have c0 := (b02.cell (p := ⟨W.heap.size, 0, none⟩) (by simp)).trans HC0.out
    have c1 := (b02.cell (p := ⟨W.heap.size, 1, none⟩) (by simp)).trans HC1.out
    have hB : Below W.heap.size W w2 := Below.step hb0 b02
    have hgW : W.heap.size ≤ g := by simp at hg; omega
    clear b1 b2 s1 hg1 hg b02 HC0 HC1 hb0
    obtain ⟨m1, l1⟩ := mod_facts x a.size
    obtain ⟨m2, l2⟩ := mod_facts y (a.size - x % (a.size + 1))
    have m2' : (y : Int) % ((a.size : Int) - ((x % (a.size + 1) : Nat) : Int) + 1) = ((y % (a.size - x % (a.size + 1) + 1) : Nat) : Int) := by rw [← m2]; congr 1; omega
    clear m2
    generalize x % (a.size + 1) = i at *
    generalize y % (a.size - i + 1) = j at *
    obtain ⟨C, w3, hrun, hC, hrow, hb3, hz3, _⟩ := bytes_run g w2 hg2 a
    go_wp2_with fail
    simp only [m1]
    clear hrun m1 m2' c0 c1
    have q1 : (i : Int) + j = ((i + j : Nat) : Int) := by omega
    rw [q1]
    clear q1
    have l3 : i + j ≤ a.size := by omega
    generalize hk : i + j = k at *
    have l4 : i ≤ k := by omega
    clear hk l2
    obtain ⟨A1, e1, r1⟩ := cut_h hrow hC a.size i l1
    obtain ⟨A2, e2, r2⟩ := cut_lh hrow hC a.size i k l4 l3
    obtain ⟨A3, e3, r3⟩ := cut_l hrow hC a.size k rfl l3
    have s3 := s2.below hb3
    have hB3 := Below.step hB hb3
    have hg3 : g < w3.heap.size := by omega
    have HL := Lib.hid (show (bl a).take i ++ (((bl a).drop i).take (k - i) ++ (bl a).drop k) = bl a by
      rw [show (bl a).drop k = ((bl a).drop i).drop (k - i) by rw [List.drop_drop]; congr 1; omega, List.take_append_drop, List.take_append_drop])
    have z1 : i = ((bl a).take i).length := by rw [List.length_take, bl_len]; omega
    have z2 : k - i = (((bl a).drop i).take (k - i)).length := by rw [List.length_take, List.length_drop, bl_len]; omega
    have z3 : a.size - k = ((bl a).drop k).length := by rw [List.length_drop, bl_len]
    have Z1 := Lib.hid z1
    have Z2 := Lib.hid z2
    have Z3 := Lib.hid z3
    clear z1 z2 z3
    go_region_with (first | (go_at_call 14; (with_reducible refine (parts3 g 0 w3 A1 A2 A3 C (C - i) (C - k) i (k - i) (a.size - k) _ _ _ (bl a) s3 (by omega) (by omega) HL.out (by rw [bl_len]; omega) hg3 Z1.out Z2.out Z3.out r1 r2 r3).mono ?_); rintro e w4 ⟨rfl, d4, o4⟩) | (go_at_call 12; (with_reducible refine (of_any g _ _ (some ⟨w2.heap.size, 0, none⟩) a.size C (bl a) (ready_of d4) (by omega) (by rw [bl_len]; omega) (by rw [bl_len]; omega) (bl_len a).symm (hrow.only o4) d4.lt).mono ?_); rintro e w5 ⟨rfl, d5, o5⟩))
    have hB5 : Below W.heap.size W w5 := hB3.trans ((o4.trans o5).below hgW hg3)
    clear d4 o4 d5 o5 r1 r2 r3 e1 e2 e3 hrow s3 s2 hnot
    go_wp2_with fail
    go_ret
    exact ⟨rfl, hB5⟩
  · have hl' : (500 : Int) < (a.size : Int) := by omega
    clear HC0 HC1
    go_enter Try.func8, Try.ntmps8
    go_wp2_with fail
    refine (new_g _).mono ?_
    rintro e w1 ⟨g, rfl, hg, hg1, s1, b1⟩
    go_wp2_with fail
    refine (awakeL b1).mono ?_
    rintro e w2 ⟨rfl, b2, b3⟩
    go_wp2_with fail
    refine (awakeL b3).mono ?_
    rintro e w3 ⟨rfl, b4, b5⟩
    go_wp2_with fail
    go_ret
    exact ⟨rfl, Below.step hb0 b5⟩
end Go.Proofs.Ytefnabceaaghaaa.SumLaws
