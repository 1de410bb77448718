/- Contracts of New, divide, Parts, Of and Right. -/
import Derived.Test.YtcnblgienombeaaSumFill
import Derived.Lib.SlBytesConst
import Derived.Lib.SmallJoins
namespace Go.Proofs.Ytcnblgienombeaa.SumOf
open Go.RowKit SumPlain Base SumLeft SumMem SumFill

/-- the cells from the slice's head on are vs, none of them in block g -/
def RowX (w : World) (g : Nat) (A : Option Addr) (vs : List Value) : Prop :=
  ∀ k v, vs[k]? = some v → ∃ ad, A = some ad ∧ ad.block < w.heap.size ∧ ad.block ≠ g ∧ w.cell? (ad.add k) = some v
section
variable {w w' : World} {g : Nat} {A : Option Addr} {vs : List Value}
theorem RowX.nil : RowX w g A [] := fun k v h => by simp at h
theorem RowX.get (h : RowX w g A vs) (k : Nat) (hk : k < vs.length) : ∃ ad, A = some ad ∧ ad.block < w.heap.size ∧ ad.block ≠ g ∧ w.cell? (ad.add k) = some vs[k] := h k _ (List.getElem?_eq_getElem hk)
theorem RowX.only (h : RowX w g A vs) (ho : Only g w w') : RowX w' g A vs := fun k v hv => by
  obtain ⟨ad, e, hb, hg, hc⟩ := h k v hv
  exact ⟨ad, e, Nat.lt_of_lt_of_le hb ho.size, hg, by rw [← hc]; exact World.cell?_of_block (by rw [blk_add]; exact ho.block _ hb (fun e => by injection e with e; exact hg e))⟩
theorem RowX.below (h : RowX w g A vs) (hb : Below w.heap.size w w') : RowX w' g A vs := h.only (Only.ofBelow hb)
theorem RowX.ofRow {B : Nat} {b : Nat} (h : Row w B (some ⟨b, 0, none⟩) vs) (hB : B ≤ w.heap.size) (hg : b ≠ g) : RowX w g (some ⟨b, 0, none⟩) vs := fun k v hv => by
  obtain ⟨ad, e, hb, hc⟩ := h k v hv
  injection e with e
  subst e
  exact ⟨_, rfl, Nat.lt_of_lt_of_le hb hB, hg, hc⟩
end
set_option maxRecDepth 100000 in
set_option maxHeartbeats 800000 in
theorem divide_any (g : Nat) (n : Int) (w : World) (r : Nat) (A : Option Addr) (c : Nat) (l : List UInt8) (h : Done w g n) (hr : r < 4294967296) (hl : l.length ≤ 1000000) (hrow : RowX w g A (bv l)) :
    Calls Try.prog 50 #[.pointer (some ⟨g, 0, none⟩), .int .u32 r, .slice A l.length c] w fun e w' => e = .returned (.int .u32 (crc r l : Nat)) ∧ w = w' := by
  go_enter Try.func50, Try.ntmps50
  go_wp2_with fail
  go_loop [1, 11] (fun v i => ∃ k : Nat, k ≤ l.length ∧ i = .int .i64 k ∧ v = .int .u32 (crc r (l.take k) : Nat)) (fun _ i => l.length - (intOf i).toNat)
  case atStart => exact ⟨0, by omega, rfl, rfl⟩
  case round =>
    obtain ⟨k, hk, rfl, rfl⟩ := hrel
    by_cases hlt : k < l.length
    · have hx : crc r (l.take k) < 4294967296 := crc_lt _ hr
      have HN := Lib.hid (show crc r (l.take (k + 1)) = stepB (crc r (l.take k)) l[k] by
        rw [List.take_succ_eq_append_getElem hlt, crc_append]; rfl)
      generalize crc r (l.take k) = m at hx HN
      obtain ⟨ad, hA, hb, hg, hc⟩ := hrow.get k (by simpa [bv] using hlt)
      subst hA
      simp only [bv, List.getElem_map] at hc
      generalize l[k] = x at hc HN
      have hx8 := UInt8.toNat_lt x
      have hj := byte_xor_lt m x
      have ht := h.cellT _ hj
      have ht32 := tab_lt _ hj
      have hxj : bits .xor .u8 ((m : Int) % 256) (x.toNat : Int) = (((m % 256) ^^^ x.toNat : Nat) : Int) := by
        rw [show (m : Int) % 256 = ((m % 256 : Nat) : Int) by omega, u8_xor_nat _ _ (by omega) (by omega)]
      have HX := Lib.hid (show bits .xor .u32 ((m : Int) / 256) ((tab ((m % 256) ^^^ x.toNat) : Nat) : Int) = ((crc r (l.take (k + 1)) : Nat) : Int) by
        rw [HN.out, show ((m : Int) / 256) = ((m / 256 : Nat) : Int) by omega, u32_xor_nat _ _ (by omega) (by omega)]; rfl)
      generalize (m % 256) ^^^ x.toNat = j at *
      generalize tab j = t at *
      go_wp2_with fail
      go_round
      case rel => exact ⟨k + 1, by omega, by go_num, by rw [← HX.out]⟩
      case measure => simp [intOf]; omega
    · obtain rfl : k = l.length := by omega
      rw [List.take_of_length_le (Nat.le_refl _)]
      go_wp2_with fail
      go_ret
      exact ⟨rfl, rfl⟩

/-- a new summer's cells -/
def isZ (k : IntKind) : Option Value → Bool
  | some (.int q 0) => decide (q = k)
  | _ => false
theorem isZ_out {k : IntKind} {o : Option Value} (h : isZ k o = true) : o = some (.int k 0) := by
  unfold isZ at h
  split at h
  · rw [of_decide_eq_true h]
  · cases h
def okZ : Option Value → Bool
  | some (.agg cs) => decide (cs.size = 260) && isZ .u32 cs[0]? && isZ .i32 cs[1]? && isZ .i64 cs[259]? && (List.range 256).all fun i => isZ .u32 cs[3 + i]?
  | _ => false
theorem zero_ok : okZ ((Try.prog.info? 68).bind fun i => i.zero) = true := by kernel_rfl
theorem zero_cells : ∃ cs : Array Value, (∀ w : World, (zeroValue 68).run Try.prog w = .ok (.agg cs) w) ∧ cs.size = 260 ∧ cs[0]? = some (.int .u32 0) ∧ cs[1]? = some (.int .i32 0) ∧ cs[259]? = some (.int .i64 0) ∧ ∀ i, i < 256 → cs[3 + i]? = some (.int .u32 0) := by
  have h := zero_ok
  cases hi : Try.prog.info? 68 with
  | none => rw [hi] at h; cases h
  | some i =>
    rw [hi] at h
    simp only [Option.bind_some] at h
    cases hz : i.zero with
    | none => rw [hz] at h; cases h
    | some v =>
      rw [hz] at h
      unfold okZ at h
      split at h
      · rename_i cs e
        injection e with e
        subst e
        simp only [Bool.and_eq_true, decide_eq_true_eq, List.all_eq_true, List.mem_range] at h
        obtain ⟨⟨⟨⟨h1, h2⟩, h3⟩, h4⟩, h5⟩ := h
        exact ⟨cs, fun w => by simp [zeroValue, typeInfo, hi, hz], h1, isZ_out h2, isZ_out h3, isZ_out h4, fun i hi => isZ_out (h5 i hi)⟩
      · cases h
set_option maxRecDepth 100000 in
set_option maxHeartbeats 800000 in
theorem new_any (w : World) : Calls Try.prog 8 #[] w fun e w' => e = .returned (.pointer (some ⟨w.heap.size, 0, none⟩)) ∧ Sm w' w.heap.size 0 0 0 (fun _ => 0) ∧ Below w.heap.size w w' := by
  obtain ⟨cs, hz, c1, c2, c3, c4, c5⟩ := zero_cells
  have HS := Lib.hid (show Sm (w.alloc (.cells cs 68)) w.heap.size 0 0 0 (fun _ => 0) from ⟨cs, heap_alloc_new w _, c1, c2, c3, c5, c4⟩)
  clear c1 c2 c3 c4 c5
  go_enter Try.func8, Try.ntmps8
  go_wp2_with fail
  go_ret
  exact ⟨rfl, HS.out, (Below.refl _ _).alloc (Nat.le_refl _) _⟩

theorem _root_.Go.Proofs.Ytcnblgienombeaa.SumFill.Ready.below {w w' : World} {g : Nat} {n : Int} (h : Ready w g n) (hb : Below w.heap.size w w') : Ready w' g n := by
  rcases h with ⟨T, h⟩ | h
  · exact .inl ⟨T, h.below hb⟩
  · exact .inr (h.below hb)
theorem Ready.lt {w : World} {g : Nat} {n : Int} (h : Ready w g n) : g < w.heap.size := by
  rcases h with ⟨T, h⟩ | h <;> exact h.lt
/-- pieces: slices, each with its bytes, none of them in block g -/
def Pieces (w : World) (g : Nat) (vs : List Value) (ls : List (List UInt8)) : Prop :=
  vs.length = ls.length ∧ ∀ (k : Nat) (l : List UInt8), ls[k]? = some l → ∃ (A : Option Addr) (c : Nat), vs[k]? = some (Value.slice A l.length c) ∧ RowX w g A (bv l)
theorem Pieces.only {w w' : World} {g : Nat} {vs : List Value} {ls : List (List UInt8)} (h : Pieces w g vs ls) (ho : Only g w w') : Pieces w' g vs ls :=
  ⟨h.1, fun k l hk => by obtain ⟨A, c, h1, h2⟩ := h.2 k l hk; exact ⟨A, c, h1, h2.only ho⟩⟩
def total (ls : List (List UInt8)) (k : Nat) : Nat := ((ls.take k).flatten).length
theorem take_flat {α : Type} (ls : List (List α)) (k : Nat) (hk : k < ls.length) : (ls.take (k + 1)).flatten = (ls.take k).flatten ++ ls[k] := by
  rw [List.take_succ_eq_append_getElem hk]; simp only [List.flatten_append, List.flatten_cons, List.flatten_nil, List.append_nil]
theorem total_le (ls : List (List UInt8)) (k : Nat) : total ls k ≤ ls.flatten.length := by
  have h : ls.flatten = (ls.take k).flatten ++ (ls.drop k).flatten := by rw [← List.flatten_append, List.take_append_drop]
  unfold total
  rw [h, List.length_append]; omega
def PartsRel (w : World) (g : Nat) (n : Int) (ls : List (List UInt8)) (k : Nat) (wr : World) : Prop := Done wr g (n + total ls k) ∧ Only g w wr

set_option maxRecDepth 100000 in
set_option maxHeartbeats 1600000 in
theorem parts_any (g : Nat) (n : Int) (w : World) (A : Option Addr) (m c : Nat) (vs : List Value) (ls : List (List UInt8)) (h : Ready w g n) (h0 : 0 ≤ n) (hn : n + ls.flatten.length ≤ 1000000000) (hl : ls.length ≤ 1000000) (hm : m = ls.length)
    (hv : RowX w g A vs) (hp : Pieces w g vs ls) (h1 : ∀ l ∈ ls, l.length ≤ 1000000) :
    Calls Try.prog 43 #[.pointer (some ⟨g, 0, none⟩), .slice A m c] w fun e w' => e = .returned (.int .u32 (sum ls.flatten : Nat)) ∧ Done w' g (n + ls.flatten.length) ∧ Only g w w' := by
  subst hm
  have hmf : ∀ (fn : Fn) (first cap : Array Value) (w : World), (Instr.makeFunc fn first cap).run Try.prog w = .ok (.func fn first cap) w := fun _ _ _ _ => rfl
  go_enter Try.func43, Try.ntmps43
  go_wp2_with fail
  refine (do_any g n _ h).mono ?_
  rintro e w1 ⟨rfl, d1, o1⟩
  clear hmf
  have HV := Lib.hid (hv.only o1)
  have HP := Lib.hid (hp.only o1)
  clear hv hp
  go_wp2_with fail
  go_loopw [5, 16] (fun v i wr => ∃ k : Nat, k ≤ ls.length ∧ i = .int .i64 k ∧ v = .int .u32 (crc full (ls.take k).flatten : Nat) ∧ PartsRel w1 g n ls k wr) (fun _ i _ => ls.length - (intOf i).toNat)
  case atStart => exact ⟨0, by omega, rfl, rfl, by unfold PartsRel total; simpa using ⟨d1, Only.refl w1 g⟩⟩
  case round =>
    obtain ⟨k, hk, rfl, rfl, hr⟩ := hrel
    have hx : crc full (ls.take k).flatten < 4294967296 := crc_lt _ full_lt
    by_cases hlt : k < ls.length
    · have HN := Lib.hid (show crc full (ls.take (k + 1)).flatten = crc (crc full (ls.take k).flatten) ls[k] by rw [take_flat ls k hlt, crc_append])
      have HT := Lib.hid (show total ls (k + 1) = total ls k + ls[k].length by unfold total; rw [take_flat ls k hlt, List.length_append])
      have t1 := total_le ls k
      have t2 : total ls k + ls[k].length ≤ ls.flatten.length := by have := total_le ls (k + 1); rw [HT.out] at this; exact this
      have t3 := h1 ls[k] (List.getElem_mem hlt)
      obtain ⟨hd, ho⟩ := hr
      obtain ⟨A2, c2, e2, hr2⟩ := HP.out.2 k _ (List.getElem?_eq_getElem hlt)
      obtain ⟨ad, hA, hb, hg, hc⟩ := (HV.out.only ho) k _ e2
      subst hA
      have HR2 := Lib.hid (hr2.only ho)
      clear hr2 e2
      generalize crc full (ls.take k).flatten = q at *
      generalize total ls k = tk at *
      generalize ls[k] = l at *
      go_wp2_with fail
      refine (divide_any g _ _ q A2 c2 l hd hx t3 HR2.out).mono ?_
      rintro e w2 ⟨rfl, rfl⟩
      go_wp2_with fail
      refine (add_any g 1 0 (n + tk) _ l.length _ hd (by omega) (by omega) (by omega)).mono ?_
      rintro e w2 ⟨rfl, rfl⟩
      go_wp2_with fail
      go_roundw
      case rel =>
        refine ⟨k + 1, by omega, by go_num, by rw [HN.out], ?_, ho.set _ _⟩
        have := hd.setN (n + tk + l.length)
        rw [HT.out]
        rw [show n + ((tk + l.length : Nat) : Int) = n + tk + l.length by omega]
        exact this
      case measure => simp [intOf]; omega
    · obtain rfl : k = ls.length := by omega
      rw [List.take_of_length_le (Nat.le_refl _)] at *
      have HX := Lib.hid (show bits .xor .u32 ((crc full ls.flatten : Nat) : Int) 4294967295 = ((sum ls.flatten : Nat) : Int) from u32_xor_nat _ _ hx (by decide))
      obtain ⟨hd, ho⟩ := hr
      unfold total at hd
      rw [List.take_of_length_le (Nat.le_refl _)] at hd
      generalize crc full ls.flatten = q at *
      go_wp2_with fail
      go_ret
      refine ⟨ret_int HX.out, hd, o1.trans ho⟩
theorem of_any (g : Nat) (n : Int) (w : World) (A : Option Addr) (m c : Nat) (l : List UInt8) (h : Ready w g n) (h0 : 0 ≤ n) (hn : n ≤ 900000000) (hl : l.length ≤ 1000000) (hm : m = l.length) (hr : RowX w g A (bv l)) (hg : g < w.heap.size) :
    Calls Try.prog 32 #[.pointer (some ⟨g, 0, none⟩), .slice A m c] w fun e w' => e = .returned (.int .u32 (sum l : Nat)) ∧ Done w' g (n + l.length) ∧ Only g w w' := by
  subst hm
  go_enter Try.func32, Try.ntmps32
  go_wp2_with fail
  have hb : Below w.heap.size w (w.alloc (.cells #[Value.slice A l.length c] 27)) := (Below.refl _ _).alloc (Nat.le_refl _) _
  have h2 : Ready (w.alloc (.cells #[Value.slice A l.length c] 27)) g n := h.below hb
  have hv : RowX (w.alloc (.cells #[Value.slice A l.length c] 27)) g (some ⟨w.heap.size, 0, none⟩) [Value.slice A l.length c] :=
    RowX.ofRow (row_of_block (heap_alloc_new w _)) (by simp) (by omega)
  have hp : Pieces (w.alloc (.cells #[Value.slice A l.length c] 27)) g [Value.slice A l.length c] [l] := ⟨rfl, fun k l' hk => by
    match k, hk with
    | 0, hk =>
      simp only [List.getElem?_cons_zero, Option.some.injEq] at hk
      subst hk
      exact ⟨A, c, rfl, hr.below hb⟩⟩
  refine (parts_any g n _ _ 1 1 _ [l] h2 h0 (by simp; omega) (by simp) rfl hv hp (by simpa using hl)).mono ?_
  rintro e w1 ⟨rfl, d1, o1⟩
  clear hv hp h2 hr h
  simp only [List.flatten_cons, List.flatten_nil, List.append_nil] at d1 ⊢
  go_wp2_with fail
  go_ret
  exact ⟨rfl, d1, (Only.ofBelow hb).trans o1⟩
theorem right_any (g : Nat) (n : Int) (w : World) (A : Option Addr) (m c : Nat) (l : List UInt8) (v : Nat) (h : Ready w g n) (h0 : 0 ≤ n) (hn : n ≤ 900000000) (hl : l.length ≤ 1000000) (hm : m = l.length) (hr : RowX w g A (bv l)) (hg : g < w.heap.size) :
    Calls Try.prog 34 #[.pointer (some ⟨g, 0, none⟩), .slice A m c, .int .u32 v] w fun e w' => e = .returned (.bool (decide (sum l = v))) ∧ Done w' g (n + l.length) ∧ Only g w w' := by
  subst hm
  go_enter Try.func34, Try.ntmps34
  go_wp2_with fail
  refine (of_any g n _ A _ c l h h0 hn hl rfl hr hg).mono ?_
  rintro e w1 ⟨rfl, d1, o1⟩
  go_wp2_with fail
  go_ret
  refine ⟨ret_bool ?_, d1, o1⟩
  rw [Bool.eq_iff_iff]
  simp
  omega
/-- bytes in a block of their own -/
theorem row_new (w : World) (g : Nat) (hg : g < w.heap.size) (l : List UInt8) (cs : Array Value) (t : TypeId) (fr : Nat × Nat) (h : cs = (bv l).toArray) : RowX (w.alloc (.cells cs t fr)) g (some ⟨w.heap.size, 0, none⟩) (bv l) := fun k v hv => by
  refine ⟨_, rfl, by simp, fun e => by simp at e; omega, ?_⟩
  rw [add_zero_block, World.cell?_alloc_mark, h]
  simpa using hv
theorem new_g (w : World) : Calls Try.prog 8 #[] w fun e w' => ∃ g, e = .returned (.pointer (some ⟨g, 0, none⟩)) ∧ w.heap.size ≤ g ∧ g < w'.heap.size ∧ Ready w' g 0 ∧ Below w.heap.size w w' :=
  (new_any w).mono fun _ _ ⟨h1, h2, h3⟩ => ⟨_, h1, Nat.le_refl _, h2.lt, .inl ⟨_, h2⟩, h3⟩
end Go.Proofs.Ytcnblgienombeaa.SumOf
