/- SumOf, SumTurn, PageSmall, PageBytes. -/
import Derived.Test.YtpidnkfcccboaaaGreatKPagePlain
import Derived.Test.YtpidnkfcccboaaaGreatKSumFill
import Derived.Test.YtpidnkfcccboaaaGreatRows
import Derived.Handy
import Derived.Laws.BitsAllLaws
import Derived.Lib.SlBytesConst
import Derived.Lib.SmallJoins
namespace Go.Proofs.YtpidnkfcccboaaaGreat.SumOf
open Go.RowKit SumPlain Base SumLeft SumMem SumFill

/-- the cells from the slice's head on are vs, none of them in block g -/
def RowX (w : World) (g : Nat) (A : Option Addr) (vs : List Value) : Prop :=
 ∀ k v, vs[k]? = some v → ∃ ad, A = some ad ∧ ad.block < w.heap.size ∧ ad.block ≠ g ∧ w.cell? (ad.add k) = some v
section
variable {w w' : World} {g : Nat} {A : Option Addr} {vs : List Value}
theorem RowX.nil : RowX w g A [] := fun k v h => by simp at h
theorem RowX.get (h : RowX w g A vs) (k : Nat) (hk : k < vs.length) : ∃ ad, A = some ad ∧ ad.block < w.heap.size ∧ ad.block ≠ g ∧ w.cell? (ad.add k) = some vs[k] := h k _ (List.getElem?_eq_getElem hk)
theorem RowX.only (h : RowX w g A vs) (ho : Only g w w') : RowX w' g A vs := fun k v hv => by
 obtain ⟨ad, e, hb, hg, hc⟩ := h k v hv
 exact ⟨ad, e, Nat.lt_of_lt_of_le hb ho.size, hg, by rw [← hc]; exact World.cell?_of_block (by rw [blk_add]; exact ho.block _ hb (fun e => by injection e with e; exact hg e))⟩
theorem RowX.below (h : RowX w g A vs) (hb : Below w.heap.size w w') : RowX w' g A vs := h.only (Only.ofBelow hb)
theorem RowX.ofRow {B : Nat} {b : Nat} (h : Row w B (some ⟨b, 0, none⟩) vs) (hB : B ≤ w.heap.size) (hg : b ≠ g) : RowX w g (some ⟨b, 0, none⟩) vs := fun k v hv => by
 obtain ⟨ad, e, hb, hc⟩ := h k v hv
 injection e with e
 subst e
 exact ⟨_, rfl, Nat.lt_of_lt_of_le hb hB, hg, hc⟩
end
set_option maxRecDepth 100000 in
set_option maxHeartbeats 800000 in
theorem divide_any (g : Nat) (n : Int) (w : World) (r : Nat) (A : Option Addr) (c : Nat) (l : List UInt8) (h : Done w g n) (hr : r < 4294967296) (hl : l.length ≤ 1000000) (hrow : RowX w g A (bv l)) :
  Calls Tryz.prog 137 #[.pointer (some ⟨g, 0, none⟩), .int .u32 r, .slice A l.length c] w fun e w' => e = .returned (.int .u32 (crc r l : Nat)) ∧ w = w' := by
 go_enter Tryz.func137, Tryz.ntmps137
 go_wp2_with fail
 go_loop [1, 11] (fun v i => ∃ k : Nat, k ≤ l.length ∧ i = .int .i64 k ∧ v = .int .u32 (crc r (l.take k) : Nat)) (fun _ i => l.length - (intOf i).toNat)
 case atStart => exact ⟨0, by omega, rfl, rfl⟩
 case round =>
  obtain ⟨k, hk, rfl, rfl⟩ := hrel
  by_cases hlt : k < l.length
  ·have hx : crc r (l.take k) < 4294967296 := crc_lt _ hr
   have HN := Lib.hid (show crc r (l.take (k + 1)) = stepB (crc r (l.take k)) l[k] by
    rw [List.take_succ_eq_append_getElem hlt, crc_append]; rfl)
   generalize crc r (l.take k) = m at hx HN
   obtain ⟨ad, hA, hb, hg, hc⟩ := hrow.get k (by simpa [bv] using hlt)
   subst hA
   simp only [bv, List.getElem_map] at hc
   generalize l[k] = x at hc HN
   have hx8 := UInt8.toNat_lt x
   have hj := byte_xor_lt m x
   have ht := h.cellT _ hj
   have ht32 := tab_lt _ hj
   have hxj : bits .xor .u8 ((m : Int) % 256) (x.toNat : Int) = (((m % 256) ^^^ x.toNat : Nat) : Int) := by
    rw [show (m : Int) % 256 = ((m % 256 : Nat) : Int) by omega, u8_xor_nat _ _ (by omega) (by omega)]
   have HX := Lib.hid (show bits .xor .u32 ((m : Int) / 256) ((tab ((m % 256) ^^^ x.toNat) : Nat) : Int) = ((crc r (l.take (k + 1)) : Nat) : Int) by
    rw [HN.out, show ((m : Int) / 256) = ((m / 256 : Nat) : Int) by omega, u32_xor_nat _ _ (by omega) (by omega)]; rfl)
   generalize (m % 256) ^^^ x.toNat = j at *
   generalize tab j = t at *
   go_wp2_with fail
   go_round
   case rel => exact ⟨k + 1, by omega, by go_num, by rw [← HX.out]⟩
   case measure => simp [intOf]; omega
  ·obtain rfl : k = l.length := by omega
   rw [List.take_of_length_le (Nat.le_refl _)]
   go_wp2_with fail
   go_ret
   exact ⟨rfl, rfl⟩

/-- a new summer's cells -/
def isZ (k : IntKind) : Option Value → Bool
 | some (.int q 0) => decide (q = k)
 | _ => false
theorem isZ_out {k : IntKind} {o : Option Value} (h : isZ k o = true) : o = some (.int k 0) := by
 unfold isZ at h
 split at h
 ·rw [of_decide_eq_true h]
 ·cases h
def okZ : Option Value → Bool
 | some (.agg cs) => decide (cs.size = 260) && isZ .u32 cs[0]? && isZ .i32 cs[1]? && isZ .i64 cs[259]? && (List.range 256).all fun i => isZ .u32 cs[3 + i]?
 | _ => false
theorem zero_ok : okZ ((Tryz.prog.info? 136).bind fun i => i.zero) = true := by kernel_rfl
theorem zero_cells : ∃ cs : Array Value, (∀ w : World, (zeroValue 136).run Tryz.prog w = .ok (.agg cs) w) ∧ cs.size = 260 ∧ cs[0]? = some (.int .u32 0) ∧ cs[1]? = some (.int .i32 0) ∧ cs[259]? = some (.int .i64 0) ∧ ∀ i, i < 256 → cs[3 + i]? = some (.int .u32 0) := by
 have h := zero_ok
 cases hi : Tryz.prog.info? 136 with
 | none => rw [hi] at h; cases h
 | some i =>
  rw [hi] at h
  simp only [Option.bind_some] at h
  cases hz : i.zero with
  | none => rw [hz] at h; cases h
  | some v =>
   rw [hz] at h
   unfold okZ at h
   split at h
   ·rename_i cs e
    injection e with e
    subst e
    simp only [Bool.and_eq_true, decide_eq_true_eq, List.all_eq_true, List.mem_range] at h
    obtain ⟨⟨⟨⟨h1, h2⟩, h3⟩, h4⟩, h5⟩ := h
    exact ⟨cs, fun w => by simp [zeroValue, typeInfo, hi, hz], h1, isZ_out h2, isZ_out h3, isZ_out h4, fun i hi => isZ_out (h5 i hi)⟩
   ·cases h
set_option maxRecDepth 100000 in
set_option maxHeartbeats 800000 in
theorem new_any (w : World) : Calls Tryz.prog 41 #[] w fun e w' => e = .returned (.pointer (some ⟨w.heap.size, 0, none⟩)) ∧ Sm w' w.heap.size 0 0 0 (fun _ => 0) ∧ Below w.heap.size w w' := by
 obtain ⟨cs, hz, c1, c2, c3, c4, c5⟩ := zero_cells
 have HS := Lib.hid (show Sm (w.alloc (.cells cs 136)) w.heap.size 0 0 0 (fun _ => 0) from ⟨cs, heap_alloc_new w _, c1, c2, c3, c5, c4⟩)
 clear c1 c2 c3 c4 c5
 go_enter Tryz.func41, Tryz.ntmps41
 go_wp2_with fail
 go_ret
 exact ⟨rfl, HS.out, (Below.refl _ _).alloc (Nat.le_refl _) _⟩

theorem _root_.Go.Proofs.YtpidnkfcccboaaaGreat.SumFill.Ready.below {w w' : World} {g : Nat} {n : Int} (h : Ready w g n) (hb : Below w.heap.size w w') : Ready w' g n := by
 rcases h with ⟨T, h⟩ | h
 ·exact .inl ⟨T, h.below hb⟩
 ·exact .inr (h.below hb)
theorem Ready.lt {w : World} {g : Nat} {n : Int} (h : Ready w g n) : g < w.heap.size := by
 rcases h with ⟨T, h⟩ | h <;> exact h.lt
/-- pieces: slices, each with its bytes, none of them in block g -/
def Pieces (w : World) (g : Nat) (vs : List Value) (ls : List (List UInt8)) : Prop :=
 vs.length = ls.length ∧ ∀ (k : Nat) (l : List UInt8), ls[k]? = some l → ∃ (A : Option Addr) (c : Nat), vs[k]? = some (Value.slice A l.length c) ∧ RowX w g A (bv l)
theorem Pieces.only {w w' : World} {g : Nat} {vs : List Value} {ls : List (List UInt8)} (h : Pieces w g vs ls) (ho : Only g w w') : Pieces w' g vs ls :=
 ⟨h.1, fun k l hk => by obtain ⟨A, c, h1, h2⟩ := h.2 k l hk; exact ⟨A, c, h1, h2.only ho⟩⟩
def total (ls : List (List UInt8)) (k : Nat) : Nat := ((ls.take k).flatten).length
theorem take_flat {α : Type} (ls : List (List α)) (k : Nat) (hk : k < ls.length) : (ls.take (k + 1)).flatten = (ls.take k).flatten ++ ls[k] := by
 rw [List.take_succ_eq_append_getElem hk]; simp only [List.flatten_append, List.flatten_cons, List.flatten_nil, List.append_nil]
theorem total_le (ls : List (List UInt8)) (k : Nat) : total ls k ≤ ls.flatten.length := by
 have h : ls.flatten = (ls.take k).flatten ++ (ls.drop k).flatten := by rw [← List.flatten_append, List.take_append_drop]
 unfold total
 rw [h, List.length_append]; omega
def PartsRel (w : World) (g : Nat) (n : Int) (ls : List (List UInt8)) (k : Nat) (wr : World) : Prop := Done wr g (n + total ls k) ∧ Only g w wr

set_option maxRecDepth 100000 in
set_option maxHeartbeats 1600000 in
theorem parts_any (g : Nat) (n : Int) (w : World) (A : Option Addr) (m c : Nat) (vs : List Value) (ls : List (List UInt8)) (h : Ready w g n) (h0 : 0 ≤ n) (hn : n + ls.flatten.length ≤ 1000000000) (hl : ls.length ≤ 1000000) (hm : m = ls.length)
  (hv : RowX w g A vs) (hp : Pieces w g vs ls) (h1 : ∀ l ∈ ls, l.length ≤ 1000000) :
  Calls Tryz.prog 125 #[.pointer (some ⟨g, 0, none⟩), .slice A m c] w fun e w' => e = .returned (.int .u32 (sum ls.flatten : Nat)) ∧ Done w' g (n + ls.flatten.length) ∧ Only g w w' := by
 subst hm
 have hmf : ∀ (fn : Fn) (first cap : Array Value) (w : World), (Instr.makeFunc fn first cap).run Tryz.prog w = .ok (.func fn first cap) w := fun _ _ _ _ => rfl
 go_enter Tryz.func125, Tryz.ntmps125
 go_wp2_with fail
 refine (do_any g n _ h).mono ?_
 rintro e w1 ⟨rfl, d1, o1⟩
 clear hmf
 have HV := Lib.hid (hv.only o1)
 have HP := Lib.hid (hp.only o1)
 clear hv hp
 go_wp2_with fail
 go_loopw [5, 16] (fun v i wr => ∃ k : Nat, k ≤ ls.length ∧ i = .int .i64 k ∧ v = .int .u32 (crc full (ls.take k).flatten : Nat) ∧ PartsRel w1 g n ls k wr) (fun _ i _ => ls.length - (intOf i).toNat)
 case atStart => exact ⟨0, by omega, rfl, rfl, by unfold PartsRel total; simpa using ⟨d1, Only.refl w1 g⟩⟩
 case round =>
  obtain ⟨k, hk, rfl, rfl, hr⟩ := hrel
  have hx : crc full (ls.take k).flatten < 4294967296 := crc_lt _ full_lt
  by_cases hlt : k < ls.length
  ·have HN := Lib.hid (show crc full (ls.take (k + 1)).flatten = crc (crc full (ls.take k).flatten) ls[k] by rw [take_flat ls k hlt, crc_append])
   have HT := Lib.hid (show total ls (k + 1) = total ls k + ls[k].length by unfold total; rw [take_flat ls k hlt, List.length_append])
   have t1 := total_le ls k
   have t2 : total ls k + ls[k].length ≤ ls.flatten.length := by have := total_le ls (k + 1); rw [HT.out] at this; exact this
   have t3 := h1 ls[k] (List.getElem_mem hlt)
   obtain ⟨hd, ho⟩ := hr
   obtain ⟨A2, c2, e2, hr2⟩ := HP.out.2 k _ (List.getElem?_eq_getElem hlt)
   obtain ⟨ad, hA, hb, hg, hc⟩ := (HV.out.only ho) k _ e2
   subst hA
   have HR2 := Lib.hid (hr2.only ho)
   clear hr2 e2
   generalize crc full (ls.take k).flatten = q at *
   generalize total ls k = tk at *
   generalize ls[k] = l at *
   go_wp2_with fail
   refine (divide_any g _ _ q A2 c2 l hd hx t3 HR2.out).mono ?_
   rintro e w2 ⟨rfl, rfl⟩
   go_wp2_with fail
   refine (add_any g 1 0 (n + tk) _ l.length _ hd (by omega) (by omega) (by omega)).mono ?_
   rintro e w2 ⟨rfl, rfl⟩
   go_wp2_with fail
   go_roundw
   case rel =>
    refine ⟨k + 1, by omega, by go_num, by rw [HN.out], ?_, ho.set _ _⟩
    have := hd.setN (n + tk + l.length)
    rw [HT.out]
    rw [show n + ((tk + l.length : Nat) : Int) = n + tk + l.length by omega]
    exact this
   case measure => simp [intOf]; omega
  ·obtain rfl : k = ls.length := by omega
   rw [List.take_of_length_le (Nat.le_refl _)] at *
   have HX := Lib.hid (show bits .xor .u32 ((crc full ls.flatten : Nat) : Int) 4294967295 = ((sum ls.flatten : Nat) : Int) from u32_xor_nat _ _ hx (by decide))
   obtain ⟨hd, ho⟩ := hr
   unfold total at hd
   rw [List.take_of_length_le (Nat.le_refl _)] at hd
   generalize crc full ls.flatten = q at *
   go_wp2_with fail
   go_ret
   refine ⟨ret_int HX.out, hd, o1.trans ho⟩
theorem of_any (g : Nat) (n : Int) (w : World) (A : Option Addr) (m c : Nat) (l : List UInt8) (h : Ready w g n) (h0 : 0 ≤ n) (hn : n ≤ 900000000) (hl : l.length ≤ 1000000) (hm : m = l.length) (hr : RowX w g A (bv l)) (hg : g < w.heap.size) :
  Calls Tryz.prog 103 #[.pointer (some ⟨g, 0, none⟩), .slice A m c] w fun e w' => e = .returned (.int .u32 (sum l : Nat)) ∧ Done w' g (n + l.length) ∧ Only g w w' := by
 subst hm
 go_enter Tryz.func103, Tryz.ntmps103
 go_wp2_with fail
 have hb : Below w.heap.size w (w.alloc (.cells #[Value.slice A l.length c] 96)) := (Below.refl _ _).alloc (Nat.le_refl _) _
 have h2 : Ready (w.alloc (.cells #[Value.slice A l.length c] 96)) g n := h.below hb
 have hv : RowX (w.alloc (.cells #[Value.slice A l.length c] 96)) g (some ⟨w.heap.size, 0, none⟩) [Value.slice A l.length c] :=
  RowX.ofRow (row_of_block (heap_alloc_new w _)) (by simp) (by omega)
 have hp : Pieces (w.alloc (.cells #[Value.slice A l.length c] 96)) g [Value.slice A l.length c] [l] := ⟨rfl, fun k l' hk => by
  match k, hk with
  | 0, hk =>
   simp only [List.getElem?_cons_zero, Option.some.injEq] at hk
   subst hk
   exact ⟨A, c, rfl, hr.below hb⟩⟩
 refine (parts_any g n _ _ 1 1 _ [l] h2 h0 (by simp; omega) (by simp) rfl hv hp (by simpa using hl)).mono ?_
 rintro e w1 ⟨rfl, d1, o1⟩
 clear hv hp h2 hr h
 simp only [List.flatten_cons, List.flatten_nil, List.append_nil] at d1 ⊢
 go_wp2_with fail
 go_ret
 exact ⟨rfl, d1, (Only.ofBelow hb).trans o1⟩
theorem right_any (g : Nat) (n : Int) (w : World) (A : Option Addr) (m c : Nat) (l : List UInt8) (v : Nat) (h : Ready w g n) (h0 : 0 ≤ n) (hn : n ≤ 900000000) (hl : l.length ≤ 1000000) (hm : m = l.length) (hr : RowX w g A (bv l)) (hg : g < w.heap.size) :
  Calls Tryz.prog 75 #[.pointer (some ⟨g, 0, none⟩), .slice A m c, .int .u32 v] w fun e w' => e = .returned (.bool (decide (sum l = v))) ∧ Done w' g (n + l.length) ∧ Only g w w' := by
 subst hm
 go_enter Tryz.func75, Tryz.ntmps75
 go_wp2_with fail
 refine (of_any g n _ A _ c l h h0 hn hl rfl hr hg).mono ?_
 rintro e w1 ⟨rfl, d1, o1⟩
 go_wp2_with fail
 go_ret
 refine ⟨ret_bool ?_, d1, o1⟩
 rw [Bool.eq_iff_iff]
 simp
 omega
theorem new_g (w : World) : Calls Tryz.prog 41 #[] w fun e w' => ∃ g, e = .returned (.pointer (some ⟨g, 0, none⟩)) ∧ w.heap.size ≤ g ∧ g < w'.heap.size ∧ Ready w' g 0 ∧ Below w.heap.size w w' :=
 (new_any w).mono fun _ _ ⟨h1, h2, h3⟩ => ⟨_, h1, Nat.le_refl _, h2.lt, .inl ⟨_, h2⟩, h3⟩
end Go.Proofs.YtpidnkfcccboaaaGreat.SumOf
namespace Go.Proofs.YtpidnkfcccboaaaGreat.SumTurn
open Go.RowKit SumPlain Base SumLeft

/-- one bit turned -/
def turn (l : List UInt8) (i : Nat) : List UInt8 := l.set (i / 8) (l[i / 8]?.getD 0 ^^^ UInt8.ofNat (2 ^ (i % 8)))
def turnK (l : List UInt8) (at_ v : Nat) : Nat → List UInt8
 | 0 => l
 | k + 1 => if v.testBit k = true ∧ at_ + k < 8 * l.length then turn (turnK l at_ v k) (at_ + k) else turnK l at_ v k
def tur (n at_ v : Nat) : Nat → Bool
 | 0 => false
 | k + 1 => if v.testBit k = true ∧ at_ + k < 8 * n then true else tur n at_ v k
def bitOf (l : List UInt8) (i : Nat) : Bool := (l[i / 8]?.getD 0).toNat.testBit (i % 8)
end Go.Proofs.YtpidnkfcccboaaaGreat.SumTurn
namespace Go.Proofs.YtpidnkfcccboaaaGreat.PageSmall
open Go.RowKit Base PagePlain

def strs (cs : List ByteArray) : List Value := cs.map Value.string
theorem strs_get {w : World} {B : Nat} {A : Option Addr} {cs : List ByteArray} (h : Row w B A (strs cs)) (k : Nat) (hk : k < cs.length) : ∃ ad, A = some ad ∧ ad.block < B ∧ w.cell? (ad.add k) = some (.string cs[k]) := by
 obtain ⟨ad, e, hb, hc⟩ := h.get k (by simpa [strs] using hk)
 exact ⟨ad, e, hb, by rw [hc]; simp [strs]⟩
/-- a page's value -/
abbrev pv (p : Pg) (A : Option Addr) (c : Nat) : Value := .agg #[.int .i64 p.kind, .int .i64 p.no, .int .i64 p.epoch, .int .i64 p.link, .slice A p.cells.length c]
theorem ints (a b : Nat) : ((a : Int) = b) = (a = b) := by simp only [Int.ofNat_inj]

set_option maxHeartbeats 800000 in
theorem room_any (w : World) (A : Option Addr) (m c : Nat) (cs : List ByteArray) (hm : m = cs.length) (hr : Row w w.heap.size A (strs cs)) (hl : cs.length ≤ 1000) (hz : ∀ q ∈ cs, q.size ≤ 1000) :
  Calls Tryz.prog 127 #[.slice A m c] w fun e w' => e = .returned (.int .i64 (room cs : Nat)) ∧ w = w' := by
 subst hm
 have ht := tot_le cs 1000 hz
 go_enter Tryz.func127, Tryz.ntmps127
 go_wp2_with fail
 go_loop [3, 11] (fun v i => ∃ k : Nat, k ≤ cs.length ∧ i = .int .i64 k ∧ v = .int .i64 ((2 * cs.length + tot (cs.take k) : Nat) : Int)) (fun _ i => cs.length - (intOf i).toNat)
 case atStart => exact ⟨0, by omega, rfl, by simp [tot]⟩
 case round =>
  obtain ⟨k, hk, rfl, rfl⟩ := hrel
  by_cases hlt : k < cs.length
  ·have HT := Lib.hid (tot_take cs k hlt)
   have h1 : tot (cs.take (k + 1)) ≤ tot cs := by
    have := tot_append (cs.take (k + 1)) (cs.drop (k + 1)); rw [List.take_append_drop] at this; omega
   rw [HT.out] at h1
   obtain ⟨ad, rfl, hb, hc⟩ := strs_get hr k hlt
   generalize cs[k] = q at *
   generalize tot (cs.take k) = t at *
   generalize cs.length = n at *
   go_wp2_with fail
   go_round
   case rel => exact ⟨k + 1, by omega, by go_num, by rw [HT.out]; go_num⟩
   case measure => simp [intOf]; omega
  ·obtain rfl : k = cs.length := by omega
   rw [List.take_of_length_le (Nat.le_refl _)]
   go_wp2_with fail
   go_ret
   exact ⟨ret_int (by unfold room; rfl), rfl⟩
theorem fits_any (w : World) (A : Option Addr) (m c : Nat) (cs : List ByteArray) (hm : m = cs.length) (hr : Row w w.heap.size A (strs cs)) (hl : cs.length ≤ 1000) (hz : ∀ q ∈ cs, q.size ≤ 1000) :
  Calls Tryz.prog 105 #[.slice A m c] w fun e w' => e = .returned (.bool (decide (room cs ≤ 236))) ∧ w = w' := by
 have hh := room_any w A m c cs hm hr hl hz
 clear hm hr hl hz
 go_enter Tryz.func105, Tryz.ntmps105
 go_wp2_with fail
 refine hh.mono ?_
 rintro e w' ⟨rfl, rfl⟩
 clear hh
 go_wp2_with fail
 go_ret
 exact ⟨ret_bool (decide_eq_decide.2 (by omega)), rfl⟩
theorem fields_any (w : World) (p : Pg) (A : Option Addr) (c : Nat) :
  Calls Tryz.prog 106 #[pv p A c] w fun e w' => e = .returned (.agg #[.int .i64 p.no, .int .i64 p.epoch, .int .i64 p.link]) ∧ Below w.heap.size w w' := by
 obtain ⟨k, n, ep, li, cs⟩ := p
 simp only [pv]
 go_enter Tryz.func106, Tryz.ntmps106
 go_wp2_with fail
 go_returns
 refine ⟨rfl, ?_⟩
 go_grown
def fld (p : Pg) : Nat → Int
 | 0 => p.no
 | 1 => p.epoch
 | _ => p.link
theorem good_iff (p : Pg) : PgOk p ↔ (1 ≤ p.kind ∧ p.kind ≤ 255) ∧ ∀ j, j < 3 → 0 ≤ fld p j ∧ fld p j ≤ 4294967295 := by
 constructor
 ·rintro ⟨h1, h2, h3, h4, h5, h6, h7, h8⟩
  refine ⟨⟨h1, h2⟩, fun j hj => ?_⟩
  match j, hj with
  | 0, _ => exact ⟨h3, h4⟩
  | 1, _ => exact ⟨h5, h6⟩
  | 2, _ => exact ⟨h7, h8⟩
 ·rintro ⟨⟨h1, h2⟩, h⟩
  exact ⟨h1, h2, (h 0 (by omega)).1, (h 0 (by omega)).2, (h 1 (by omega)).1, (h 1 (by omega)).2, (h 2 (by omega)).1, (h 2 (by omega)).2⟩
set_option maxRecDepth 100000 in
set_option maxHeartbeats 1600000 in
theorem check_any (w : World) (p : Pg) (A : Option Addr) (c : Nat) (hr : Row w w.heap.size A (strs p.cells)) (hl : p.cells.length ≤ 1000) (hz : ∀ q ∈ p.cells, q.size ≤ 1000) :
  Calls Tryz.prog 78 #[pv p A c] w fun e w' => e = .returned (.int .i64 (err p)) ∧ Below w.heap.size w w' := by
 have hb : Below w.heap.size w (w.alloc (.cells #[.int .i64 p.kind, .int .i64 p.no, .int .i64 p.epoch, .int .i64 p.link, .slice A p.cells.length c] 69)) := (Below.refl _ _).alloc (Nat.le_refl _) _
 have hf := fits_any (w.alloc (.cells #[.int .i64 p.kind, .int .i64 p.no, .int .i64 p.epoch, .int .i64 p.link, .slice A p.cells.length c] 69)) A p.cells.length c p.cells rfl (hr.belowSize hb) hl hz
 have hfd := fields_any (w.alloc (.cells #[.int .i64 p.kind, .int .i64 p.no, .int .i64 p.epoch, .int .i64 p.link, .slice A p.cells.length c] 69)) p A c
 have HG := Lib.hid (good_iff p)
 have HE := Lib.hid (show err p = if room p.cells ≤ 236 then if PgOk p then 0 else 41 else 40 from rfl)
 have f0 : fld p 0 = p.no := rfl
 have f1 : fld p 1 = p.epoch := rfl
 have f2 : fld p 2 = p.link := rfl
 generalize fld p = f at *
 generalize err p = er at *
 have hnot : ∀ (x : Bool) (w : World), (Op.unary .not (.bool x)).run Tryz.prog w = .ok (.bool (!x)) w := fun _ _ => rfl
 clear hr hl hz
 obtain ⟨k, n, ep, li, cs⟩ := p
 simp only [pv] at *
 have HF := Lib.hid f0
 have HF1 := Lib.hid f1
 have HF2 := Lib.hid f2
 clear f0 f1 f2
 by_cases hro : room cs ≤ 236
 ·have hE2 := HE.out
  rw [if_pos hro] at hE2
  have HE2 := Lib.hid hE2
  clear hE2 HE
  rw [decide_eq_true hro] at hf
  by_cases hk : 1 ≤ k ∧ k ≤ 255
  ·obtain ⟨hk1, hk2⟩ := hk
   go_enter Tryz.func78, Tryz.ntmps78
   go_wp2_with fail
   refine hf.mono ?_
   rintro e w1 ⟨rfl, rfl⟩
   clear hf
   go_wp2_with fail
   refine hfd.mono ?_
   rintro e w1 ⟨rfl, hb1⟩
   clear hfd
   have hb2 := Below.step hb hb1
   clear hb hb1
   go_wp2_with fail
   go_loop [19] (fun i => ∃ j : Nat, j ≤ 3 ∧ i = .int .i64 j ∧ ∀ q, q < j → 0 ≤ f q ∧ f q ≤ 4294967295) (fun i => 3 - (intOf i).toNat)
   case atStart => exact ⟨0, by omega, rfl, fun q hq => by omega⟩
   case round =>
    obtain ⟨j, hj, rfl, hq⟩ := hrel
    have HQ := Lib.hid hq
    clear hq
    by_cases hlt : j < 3
    ·have hfj : ∃ z, f j = z ∧ ∀ w, (Instr.index 178 (.agg #[.int .i64 n, .int .i64 ep, .int .i64 li]) (.int .i64 (j : Int))).run Tryz.prog w = .ok (.int .i64 z) w := by
      match j, hlt with
      | 0, _ => exact ⟨n, HF.out, fun w => by kernel_rfl⟩
      | 1, _ => exact ⟨ep, HF1.out, fun w => by kernel_rfl⟩
      | 2, _ => exact ⟨li, HF2.out, fun w => by kernel_rfl⟩
     obtain ⟨z, hz, hget⟩ := hfj
     have HZ := Lib.hid hz
     clear hz
     by_cases hin : 0 ≤ z ∧ z ≤ 4294967295
     ·obtain ⟨z1, z2⟩ := hin
      go_wp2_with fail
      go_round
      case rel =>
       refine ⟨j + 1, by omega, by go_num, fun q hq => ?_⟩
       by_cases e : q = j
       ·subst e; rw [HZ.out]; exact ⟨z1, z2⟩
       ·exact HQ.out q (by omega)
      case measure => simp [intOf]; omega
     ·have hEr : er = 41 := by
       rw [HE2.out, if_neg]
       intro hg
       have := (HG.out.1 hg).2 j hlt
       rw [HZ.out] at this
       exact hin this
      subst hEr
      clear HE2
      by_cases z1 : z < 0
      ·go_wp2_with fail
       go_ret
       exact ⟨rfl, hb2⟩
      ·have z2 : 4294967295 < z := by omega
       clear hin
       go_wp2_with fail
       go_ret
       exact ⟨rfl, hb2⟩
    ·obtain rfl : j = 3 := by omega
     have hEr : er = 0 := by
      rw [HE2.out, if_pos]
      exact HG.out.2 ⟨⟨hk1, hk2⟩, HQ.out⟩
     subst hEr
     clear HE2
     go_wp2_with fail
     go_ret
     exact ⟨rfl, hb2⟩
  ·have hEr : er = 41 := by
    rw [HE2.out, if_neg]
    intro hg
    exact hk (HG.out.1 hg).1
   subst hEr
   clear HE2
   by_cases k1 : k < 1
   ·go_enter Tryz.func78, Tryz.ntmps78
    go_wp2_with fail
    refine hf.mono ?_
    rintro e w1 ⟨rfl, rfl⟩
    clear hf hfd
    go_wp2_with fail
    go_ret
    exact ⟨rfl, hb⟩
   ·have k2 : 255 < k := by omega
    clear hk
    go_enter Tryz.func78, Tryz.ntmps78
    go_wp2_with fail
    refine hf.mono ?_
    rintro e w1 ⟨rfl, rfl⟩
    clear hf hfd
    go_wp2_with fail
    go_ret
    exact ⟨rfl, hb⟩
 ·have hEr : er = 40 := by rw [HE.out, if_neg hro]
  subst hEr
  clear HE
  rw [decide_eq_false hro] at hf
  clear hfd
  go_enter Tryz.func78, Tryz.ntmps78
  go_wp2_with fail
  refine hf.mono ?_
  rintro e w1 ⟨rfl, rfl⟩
  clear hf
  go_wp2_with fail
  go_ret
  exact ⟨rfl, hb⟩
end Go.Proofs.YtpidnkfcccboaaaGreat.PageSmall
namespace Go.Proofs.YtpidnkfcccboaaaGreat.PageBytes
open Go.RowKit Base PagePlain PageSmall SumMem

/-- block b is the bytes l, and may be written -/
abbrev Arr (w : World) (b : Nat) (t : TypeId) (l : List UInt8) : Prop := At w b t (bv l).toArray
theorem Arr.cell {w : World} {b : Nat} {t : TypeId} {l : List UInt8} (h : Arr w b t l) (k : Nat) (hk : k < l.length) : w.cell? ⟨b, k, none⟩ = some (.int .u8 (l[k].toNat : Int)) := by
 rw [At.cell h]; simp [bv, hk]
theorem Arr.set {w : World} {b : Nat} {t : TypeId} {l : List UInt8} (h : Arr w b t l) (k : Nat) (x : UInt8) : Arr (w.setCell ⟨b, k, none⟩ (.int .u8 (x.toNat : Int))) b t (l.set k x) := by
 have := At.set h k (.int .u8 (x.toNat : Int))
 unfold Arr
 have e : (bv l).toArray.setIfInBounds k (.int .u8 (x.toNat : Int)) = (bv (l.set k x)).toArray := by
  simp [bv, List.map_set]
 rw [← e]; exact this
theorem Arr.row {w : World} {b : Nat} {t : TypeId} {l : List UInt8} (h : Arr w b t l) : Row w w.heap.size (some ⟨b, 0, none⟩) (bv l) := fun k v hv => by
 refine ⟨_, rfl, At.lt h, ?_⟩
 rw [add_zero_block, At.cell h]
 simpa using hv
theorem Arr.rowX {w : World} {b g : Nat} {t : TypeId} {l : List UInt8} (h : Arr w b t l) (hg : b ≠ g) : SumOf.RowX w g (some ⟨b, 0, none⟩) (bv l) := fun k v hv => by
 refine ⟨_, rfl, At.lt h, hg, ?_⟩
 rw [add_zero_block, At.cell h]
 simpa using hv
theorem Arr.only {w w' : World} {b g : Nat} {t : TypeId} {l : List UInt8} (h : Arr w b t l) (ho : Only g w w') (hg : b ≠ g) : Arr w' b t l :=
 (ho.block b (At.lt h) (fun e => hg (Option.some.inj e))).trans h
theorem Arr.below {w w' : World} {b : Nat} {t : TypeId} {l : List UInt8} (h : Arr w b t l) (hb : Below w.heap.size w w') : Arr w' b t l := (hb.block b (At.lt h)).trans h

/-- the lowest k bytes of n, put from the last place of four on -/
def put4 (l : List UInt8) (o n : Nat) : Nat → List UInt8
 | 0 => l
 | k + 1 => (put4 l o n k).set (o + (3 - k)) (b8 (n / 256 ^ k))
theorem put4_len (l : List UInt8) (o n k : Nat) : (put4 l o n k).length = l.length := by
 induction k with
 | zero => rfl
 | succ k ih => simp [put4, ih]
theorem put4_all (l : List UInt8) (o n : Nat) (h : o + 4 ≤ l.length) : put4 l o n 4 = splice l o (be4 n) := by
 have e1 : l = l.take o ++ (l.drop o) := (List.take_append_drop o l).symm
 have h2 : 4 ≤ (l.drop o).length := by rw [List.length_drop]; omega
 have h3 : (l.take o).length = o := by rw [List.length_take]; omega
 have h4 : splice l o (be4 n) = l.take o ++ (be4 n ++ (l.drop o).drop 4) := by
  unfold splice; rw [be4_len, List.drop_drop, List.append_assoc]
 rw [h4]
 generalize l.drop o = r at *
 generalize l.take o = a at *
 subst e1
 subst h3
 match r, h2 with
 | x :: y :: z :: t :: r, _ =>
  simp only [put4]
  simp [List.set_append_right, be4]

set_option maxRecDepth 100000 in
set_option maxHeartbeats 800000 in
theorem write_any (w : World) (b o m c n : Nat) (t : TypeId) (l : List UInt8) (h : Arr w b t l) (ho : o + 4 ≤ l.length) (hm : 4 ≤ m) (hn : n < 4294967296) :
  Calls Tryz.prog 111 #[.slice (some ⟨b, o, none⟩) m c, .int .u32 n] w fun e w' => e = .returned (.tuple #[]) ∧ Arr w' b t (splice l o (be4 n)) ∧ Only b w w' := by
 rw [← put4_all l o n ho]
 go_enter Tryz.func111, Tryz.ntmps111
 go_wp2_with fail
 go_loopw [1, 5] (fun v i wr' => ∃ k : Nat, k ≤ 4 ∧ i = .int .i64 k ∧ v = .int .u32 ((n / 256 ^ k : Nat) : Int) ∧ Arr wr' b t (put4 l o n k) ∧ Only b w wr') (fun _ i _ => 4 - (intOf i).toNat)
 case atStart => exact ⟨0, by omega, rfl, by simp, h, Only.refl w b⟩
 case round =>
  obtain ⟨k, hk, rfl, rfl, ha, hb⟩ := hrel
  by_cases hlt : k < 4
  ·have hk3 : o + (3 - k) < (put4 l o n k).length := by rw [put4_len]; omega
   have hc := ha.cell (o + (3 - k)) hk3
   have hf := At.frozen ha (o + (3 - k))
   have HS := Lib.hid (ha.set (o + (3 - k)) (b8 (n / 256 ^ k)))
   have HD := Lib.hid (show n / 256 ^ (k + 1) = n / 256 ^ k / 256 by rw [Nat.pow_succ, Nat.div_div_eq_div_mul])
   have HW := Lib.hid (show put4 l o n (k + 1) = (put4 l o n k).set (o + (3 - k)) (b8 (n / 256 ^ k)) from rfl)
   have HB := Lib.hid (show ((b8 (n / 256 ^ k)).toNat : Int) = ((n / 256 ^ k : Nat) : Int) % 256 by rw [b8_nat]; omega)
   have hnk : n / 256 ^ k < 4294967296 := Nat.lt_of_le_of_lt (Nat.div_le_self _ _) hn
   generalize (put4 l o n k)[o + (3 - k)] = x at *
   generalize n / 256 ^ k = q at *
   go_wp2_with fail
   go_roundw
   case rel =>
    refine ⟨k + 1, by omega, by go_num, by rw [HD.out]; go_num, ?_, Only.set hb _ _⟩
    have := HS.out
    rw [HB.out] at this
    rw [HW.out]
    exact this
   case measure => simp [intOf]; omega
  ·obtain rfl : k = 4 := by omega
   go_wp2_with fail
   go_returns
   exact ⟨rfl, ha, hb⟩
theorem or_word (m : Nat) (c : UInt8) (hm : m < 16777216) : bits .or .u32 ((m : Int) * 256) (c.toNat : Int) = ((m * 256 + c.toNat : Nat) : Int) := by
 have hc : c.toNat < 256 := UInt8.toNat_lt c
 have h := Nat.shiftLeft_add_eq_or_of_lt (UInt8.toNat_lt c) m
 simp only [Nat.shiftLeft_eq] at h
 rw [show ((m : Int) * 256) = ((m * 256 : Nat) : Int) by omega, u32_or_nat _ _ (by omega) (by omega), ← h]
/-- the number of the first k bytes -/
def rdk (l : List UInt8) : Nat → Nat
 | 0 => 0
 | k + 1 => rdk l k * 256 + gt l k
theorem rdk_lt (l : List UInt8) (k : Nat) : rdk l k < 256 ^ k := by
 induction k with
 | zero => simp [rdk]
 | succ k ih =>
  have := gt_lt l k
  simp only [rdk, Nat.pow_succ]
  omega
theorem rdk_all (l : List UInt8) : rdk l 4 = rd4 l 0 := by simp [rdk, rd4]
set_option maxHeartbeats 800000 in
theorem read_any (w : World) (A : Option Addr) (m c : Nat) (l : List UInt8) (hm : m = l.length) (h : Row w w.heap.size A (bv l)) (hl : 4 ≤ l.length) (hc : l.length ≤ c) :
  Calls Tryz.prog 76 #[.slice A m c] w fun e w' => e = .returned (.int .u32 (rd4 l 0 : Nat)) ∧ w = w' := by
 subst hm
 rw [← rdk_all]
 go_enter Tryz.func76, Tryz.ntmps76
 go_wp2_with fail
 go_loop [3, 9] (fun v i => ∃ k : Nat, k ≤ 4 ∧ i = .int .i64 k ∧ v = .int .u32 (rdk l k : Nat)) (fun _ i => 4 - (intOf i).toNat)
 case atStart => exact ⟨0, by omega, rfl, rfl⟩
 case round =>
  obtain ⟨k, hk, rfl, rfl⟩ := hrel
  by_cases hlt : k < 4
  ·have HS := Lib.hid (show rdk l (k + 1) = rdk l k * 256 + l[k].toNat by rw [← gt_get l k (by omega)]; rfl)
   obtain ⟨ad, rfl, hb, hcell⟩ := h.get k (by rw [bv_len]; omega)
   simp only [bv, List.getElem_map] at hcell
   have hlt2 : rdk l k < 16777216 := by
    have h1 := rdk_lt l k
    have h2 : 256 ^ k ≤ 256 ^ 3 := Nat.pow_le_pow_right (by omega) (by omega)
    omega
   have HO := Lib.hid (or_word (rdk l k) l[k] hlt2)
   have hx8 := UInt8.toNat_lt l[k]
   generalize rdk l k = r at *
   generalize l[k] = x at *
   go_wp2_with fail
   go_round
   case rel => exact ⟨k + 1, by omega, by go_num, by rw [HS.out, ← HO.out]⟩
   case measure => simp [intOf]; omega
  ·obtain rfl : k = 4 := by omega
   go_wp2_with fail
   go_ret
   exact ⟨rfl, rfl⟩
end Go.Proofs.YtpidnkfcccboaaaGreat.PageBytes
