/- The contracts of kidsOf, leafOf, branchOf and Of. -/
import Derived.Test.YtpcpfcllgadghaaNodeRd
import Derived.Deep.RegionLaw
import Derived.BigRegion
namespace Go.Proofs.Ytpcpfcllgadghaa.NodeOf
open Go.RowKit Base NodePlain NodeRead NodeSlice NodeCheck NodeBox NodeEnt NodeTwo NodeRd

theorem or_nat (a b : Nat) (i : Nat) (h1 : a % 2 ^ i = 0) (h2 : b < 2 ^ i) (h3 : a < 4294967296) (h4 : b < 4294967296) : bits .or .i64 (a : Int) (b : Int) = ((a + b : Nat) : Int) := by
  have hx : a ||| b < 2 ^ 32 := Nat.or_lt_two_pow (by omega) (by omega)
  have e : a ||| b = a + b := by
    have := Nat.shiftLeft_add_eq_or_of_lt h2 (a / 2 ^ i)
    rw [Nat.shiftLeft_eq, Nat.div_mul_cancel (Nat.dvd_of_mod_eq_zero h1)] at this
    exact this.symm
  have o : ∀ n : Nat, n < 4294967296 → (BitVec.ofInt 64 (n : Int)).toNat = n := fun n hn => by simp; omega
  show IntKind.i64.wrap ((BitVec.ofInt 64 (a : Int) ||| BitVec.ofInt 64 (b : Int)).toNat : Int) = _
  rw [BitVec.toNat_or, o a h3, o b h4, ← e]
  exact IntWalk.i64_in _ (by omega)
/-- four bytes as a number -/
def num (q : ByteArray) (h : q.size = 4) : Nat := q[0].toNat * 16777216 + q[1].toNat * 65536 + q[2].toNat * 256 + q[3].toNat
theorem or_num (q : ByteArray) (h : q.size = 4) : bits .or .i64 (bits .or .i64 (bits .or .i64 ((q[0].toNat : Int) * 16777216) ((q[1].toNat : Int) * 65536)) ((q[2].toNat : Int) * 256)) (q[3].toNat : Int) = (num q h : Int) := by
  have hx0 := UInt8.toNat_lt q[0]
  have hx1 := UInt8.toNat_lt q[1]
  have hx2 := UInt8.toNat_lt q[2]
  have hx3 := UInt8.toNat_lt q[3]
  unfold num
  generalize q[0].toNat = a at *
  generalize q[1].toNat = b at *
  generalize q[2].toNat = c at *
  generalize q[3].toNat = d at *
  rw [show (a : Int) * 16777216 = ((a * 16777216 : Nat) : Int) by omega, show (b : Int) * 65536 = ((b * 65536 : Nat) : Int) by omega, show (c : Int) * 256 = ((c * 256 : Nat) : Int) by omega]
  rw [or_nat (a * 16777216) (b * 65536) 24 (by omega) (by omega) (by omega) (by omega), or_nat _ (c * 256) 16 (by omega) (by omega) (by omega) (by omega), or_nat _ d 8 (by omega) (by omega) (by omega) (by omega)]
theorem num_lt (q : ByteArray) (h : q.size = 4) : num q h < 4294967296 := by
  have hx0 := UInt8.toNat_lt q[0]
  have hx1 := UInt8.toNat_lt q[1]
  have hx2 := UInt8.toNat_lt q[2]
  have hx3 := UInt8.toNat_lt q[3]
  unfold num
  omega
theorem four_num (q : ByteArray) (h : q.size = 4) : four (num q h) = q := by
  apply bs_ext
  have hx0 := UInt8.toNat_lt q[0]
  have hx1 := UInt8.toNat_lt q[1]
  have hx2 := UInt8.toNat_lt q[2]
  have hx3 := UInt8.toNat_lt q[3]
  have hl : q.data.toList.length = q.size := rfl
  have g : ∀ (i : Nat) (hi : i < q.size), q.data.toList[i]'(by omega) = q[i] := fun i hi => rfl
  match hq : q.data.toList, (show q.data.toList.length = 4 by omega) with
  | [a, b, c, d], _ =>
    have e0 : q[0] = a := by rw [← g 0 (by omega)]; simp [hq]
    have e1 : q[1] = b := by rw [← g 1 (by omega)]; simp [hq]
    have e2 : q[2] = c := by rw [← g 2 (by omega)]; simp [hq]
    have e3 : q[3] = d := by rw [← g 3 (by omega)]; simp [hq]
    unfold four num
    rw [e0, e1, e2, e3]
    have ha := UInt8.toNat_lt a
    have hb := UInt8.toNat_lt b
    have hc := UInt8.toNat_lt c
    have hd := UInt8.toNat_lt d
    have f : ∀ (m : Nat) (x : UInt8), m % 256 = x.toNat → UInt8.ofNat m = x := fun m x hm => by
      apply UInt8.toNat_inj.1
      rw [UInt8.toNat_ofNat']
      exact hm
    simp only [List.cons.injEq, and_true]
    exact ⟨f _ _ (by omega), f _ _ (by omega), f _ _ (by omega), f _ _ (by omega)⟩
theorem num_four (n : Nat) (h : n < 4294967296) : num (four n) rfl = n := by
  show (UInt8.ofNat (n / 16777216)).toNat * 16777216 + (UInt8.ofNat (n / 65536)).toNat * 65536 + (UInt8.ofNat (n / 256)).toNat * 256 + (UInt8.ofNat n).toNat = n
  simp only [UInt8.toNat_ofNat']
  omega
/-- what kidsOf comes to -/
def KidsPost (W : World) (cs : List ByteArray) (e : Ending) (w' : World) : Prop := Below W.heap.size W w' ∧
  ((∃ A m c ks, e = .returned (.tuple #[.slice A m c, .bool true]) ∧ SlO W.heap.size (ints ks) (.slice A m c) w' ∧ ks.length = cs.length ∧ (ks.map fun k => four k.toNat) = cs ∧ ∀ k ∈ ks, 0 ≤ k ∧ k < 4294967296) ∨
   (e = .returned (.tuple #[.slice none 0 0, .bool false]) ∧ ∀ ks : List Int, (ks.map fun k => four k.toNat) ≠ cs))
set_option maxRecDepth 100000 in
set_option maxHeartbeats 3200000 in
theorem kidsOf_any (w : World) (A0 : Option Addr) (n c0 : Nat) (cs : List ByteArray) (hn : n = cs.length) (hr : Row w w.heap.size A0 (strs cs)) (hl : cs.length ≤ 1000) :
    Calls Try.prog 59 #[.slice A0 n c0] w (KidsPost w cs) := by
  subst hn
  go_enter Try.func59, Try.ntmps59
  go_wp2_with fail
  go_loopw [4, 9] (fun v i wr => ∃ (k : Nat) (A : Option Addr) (c : Nat) (ks : List Int), k ≤ cs.length ∧ i = .int .i64 k ∧ v = .slice A k c ∧ Own wr w.heap.size 3 A c (ints ks) ∧ (ks.length = k ∧ (ks.map fun k => four k.toNat) = cs.take k ∧ ∀ k ∈ ks, 0 ≤ k ∧ k < 4294967296) ∧ Below w.heap.size w wr) (fun _ i _ => cs.length - (intOf i).toNat)
  case atStart => exact ⟨0, none, 0, [], by omega, rfl, rfl, Own.nil _ _ _, ⟨rfl, rfl, by simp⟩, Below.refl _ _⟩
  case round =>
    obtain ⟨k, A, c, ks, hk, rfl, rfl, hown, hres, hb⟩ := hrel
    have hbs := hb.size
    have HRS := Lib.hid hres
    clear hres
    by_cases hlt : k < cs.length
    · obtain ⟨ad, rfl, hb1, hc1⟩ := strs_get (hr.belowSize hb) k hlt
      have HBAD := Lib.hid (show cs[k].size ≠ 4 → ∀ ks : List Int, (ks.map fun k => four k.toNat) ≠ cs from fun h ks e => by
        subst e
        have : (four (ks[k]'(by simpa using hlt)).toNat).size = 4 := rfl
        exact h (by simpa using this))
      have HTK := Lib.hid (show cs.take (k + 1) = cs.take k ++ [cs[k]] from List.take_succ_eq_append_getElem hlt)
      generalize cs[k] = q at *
      by_cases h0 : q.size = 4
      · have h1 : (q.size : Int) = 4 := by omega
        have hx0 := UInt8.toNat_lt (q[0]'(by omega))
        have hx1 := UInt8.toNat_lt (q[1]'(by omega))
        have hx2 := UInt8.toNat_lt (q[2]'(by omega))
        have hx3 := UInt8.toNat_lt (q[3]'(by omega))
        have HNUM := Lib.hid (or_num q h0)
        have HL := Lib.hid (show (ints ks).length = k by rw [ints_len, HRS.out.1])
        have HRES := Lib.hid (show (ks ++ [((num q h0 : Nat) : Int)]).length = k + 1 ∧ ((ks ++ [((num q h0 : Nat) : Int)]).map fun k => four k.toNat) = cs.take (k + 1) ∧ ∀ k ∈ ks ++ [((num q h0 : Nat) : Int)], 0 ≤ k ∧ k < 4294967296 from
          ⟨by rw [List.length_append, HRS.out.1]; rfl, by rw [HTK.out, List.map_append, HRS.out.2.1]; simp [four_num q h0], fun t ht => by
            rcases List.mem_append.1 ht with g | g
            · exact HRS.out.2.2 t g
            · rw [List.mem_singleton.1 g]; have := num_lt q h0; omega⟩)
        obtain ⟨E, hE⟩ : ∃ E, E = bits .or .i64 (bits .or .i64 (bits .or .i64 ((q[0].toNat : Int) * 16777216) ((q[1].toNat : Int) * 65536)) ((q[2].toNat : Int) * 256)) (q[3].toNat : Int) := ⟨_, rfl⟩
        have hown' : Own (World.drew (wr.alloc (.cells #[.int .i64 E] 3))) w.heap.size 3 A c (ints ks) := hown.alloc _
        have hrow' : Row (World.drew (wr.alloc (.cells #[.int .i64 E] 3))) (wr.alloc (.cells #[.int .i64 E] 3)).heap.size (some ⟨wr.heap.size, 0, none⟩) [.int .i64 E] := row_one wr (.int .i64 E) 3
        have hbd : Below w.heap.size w (World.drew (wr.alloc (.cells #[.int .i64 E] 3))) := (bstep hb hbs (al _ _)).drew
        obtain ⟨A2, c2, w2, hrun, hown2, hg⟩ := run_append_row (P := Try.prog) 23 el_i (c2 := 1) hown' hrow' (by simp [Value.oneCell']) (by rw [HL.out]; simp [maxLen]; omega) (by rw [HL.out]; simp; omega) hbd.size
        have hb2 : Below w.heap.size w w2 := hown'.below hbd hg (Nat.le_refl _) hbd.size
        rw [HL.out] at hrun
        have HO := Lib.hid (show Own w2 w.heap.size 3 A2 c2 (ints (ks ++ [((num q h0 : Nat) : Int)])) by
          rw [hE, HNUM.out] at hown2
          simpa [ints] using hown2)
        clear hown2 hg hown' hrow' hbd
        subst hE
        have jw0 : IntKind.i64.wrap (q[0].toNat : Int) = (q[0].toNat : Int) := IntWalk.i64_in _ (by omega)
        have jm0 : IntKind.i64.wrap ((q[0].toNat : Int) * 16777216) = (q[0].toNat : Int) * 16777216 := IntWalk.i64_in _ (by omega)
        have jw1 : IntKind.i64.wrap (q[1].toNat : Int) = (q[1].toNat : Int) := IntWalk.i64_in _ (by omega)
        have jm1 : IntKind.i64.wrap ((q[1].toNat : Int) * 65536) = (q[1].toNat : Int) * 65536 := IntWalk.i64_in _ (by omega)
        have jw2 : IntKind.i64.wrap (q[2].toNat : Int) = (q[2].toNat : Int) := IntWalk.i64_in _ (by omega)
        have jm2 : IntKind.i64.wrap ((q[2].toNat : Int) * 256) = (q[2].toNat : Int) * 256 := IntWalk.i64_in _ (by omega)
        have jw3 : IntKind.i64.wrap (q[3].toNat : Int) = (q[3].toNat : Int) := IntWalk.i64_in _ (by omega)
        go_wp2_with fail
        go_region_law (refine step_append_run rfl (.tmp 16) (.tmp 35) 23 23 rfl (by simp [Act.eval]) (by simp [Act.eval]) hrun ?_)
        all_goals
          go_wp2_with fail
          go_roundw
          case rel => exact ⟨k + 1, A2, c2, _, by omega, by go_num, rfl, HO.out, HRES.out, hb2⟩
          case measure => simp [intOf]; omega
      · have h1 : ((q.size : Int) != 4) = true := by simp; omega
        have HBB := Lib.hid (HBAD.out h0)
        go_wp2_with fail
        go_ret2
        exact ⟨hb, .inr ⟨rfl, HBB.out⟩⟩
    · obtain rfl : k = cs.length := by omega
      have HL := Lib.hid (show cs.length = (ints ks).length by rw [ints_len, HRS.out.1])
      go_wp2_with fail
      go_ret2
      exact ⟨hb, .inl ⟨_, _, _, ks, rfl, own_slo hown _ HL.out, HRS.out.1, by rw [HRS.out.2.1, List.take_of_length_le (Nat.le_refl _)], HRS.out.2.2⟩⟩
end Go.Proofs.Ytpcpfcllgadghaa.NodeOf
