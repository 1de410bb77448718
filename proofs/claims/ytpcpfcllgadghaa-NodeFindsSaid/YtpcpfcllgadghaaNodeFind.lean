/- The contracts of sort.Search at Find's closure, of Find, of the document's Find, and of got. -/
import Derived.Test.YtpcpfcllgadghaaNodeBox
namespace Go.Proofs.Ytpcpfcllgadghaa.NodeFind
open Go.RowKit Base NodePlain NodeRead NodeSlice NodeCheck NodeBox

set_option maxHeartbeats 800000 in
theorem clo_any (w : World) (g g2 i : Nat) (n : Nd) (h : Hd) (key : ByteArray) (bx : Bx w g n h) (hk : w.cell? ⟨g2, 0, none⟩ = some (.string key)) (hr : Row w w.heap.size h.K (strs n.keys)) (_hl : n.keys.length ≤ 1000) (hi : i < n.keys.length) :
    Calls Try.prog 47 #[.int .i64 (i : Int), .pointer (some ⟨g, 0, none⟩), .pointer (some ⟨g2, 0, none⟩)] w fun e w' => e = .returned (.bool (!less n.keys[i] key)) ∧ ∃ m, w' = w.drewN m := by
  obtain ⟨c0, c1, c2, c3, _⟩ := bx
  obtain ⟨ad, hKe, hb, hcell⟩ := strs_get hr i hi
  rw [hKe] at c1
  clear hKe
  have hd : less n.keys[i] key = Op.bytesLess n.keys[i].data.toList key.data.toList := rfl
  rw [← Lib.toList_data, ← Lib.toList_data] at hd
  have HD := Lib.hid hd
  have HD2 := Lib.hid (show n.keys.length = n.keys.length from rfl)
  clear hd
  generalize less n.keys[i] key = b at *
  generalize n.keys[i] = q at *
  have i1 : (i : Int) < (n.keys.length : Int) := by omega
  go_enter Try.func47, Try.ntmps47
  go_wp2_with fail
  go_quiet (fail)
  go_wp2_with fail
  go_ret
  exact ⟨ret_bool (by rw [HD.out]), _, rfl⟩
set_option maxHeartbeats 1600000 in
theorem search_any (w : World) (g g2 m : Nat) (n : Nd) (h : Hd) (key : ByteArray) (hm : m = n.keys.length) (bx : Bx w g n h) (hk : w.cell? ⟨g2, 0, none⟩ = some (.string key)) (hr : Row w w.heap.size h.K (strs n.keys)) (hl : n.keys.length ≤ 1000) (hu : Up n.keys) :
    Calls Try.prog 46 #[.int .i64 (m : Int), .func (.func 47) #[] #[.pointer (some ⟨g, 0, none⟩), .pointer (some ⟨g2, 0, none⟩)]] w fun e w' => e = .returned (.int .i64 (pos n.keys key : Nat)) ∧ ∃ m, w' = w.drewN m := by
  subst hm
  have HB := Lib.hid (fun (m : Nat) (i : Nat) (hi : i < n.keys.length) => clo_any (w.drewN m) g g2 i n h key (bx.below (Base.below_drewN w _ m)) hk hr hl hi)
  have HU := Lib.hid hu
  clear bx hk hr hu
  go_enter Try.func46, Try.ntmps46
  go_wp2_with fail
  go_loopw [5, 6] (fun x y wr => ∃ (i j : Nat), i ≤ j ∧ j ≤ n.keys.length ∧ x = .int .i64 (i : Int) ∧ y = .int .i64 (j : Int) ∧ (∀ a, a + 1 = i → ∀ h : a < n.keys.length, less n.keys[a] key = true) ∧ (∀ h : j < n.keys.length, less n.keys[j] key = false) ∧ ∃ m, wr = w.drewN m) (fun x y _ => (intOf y).toNat - (intOf x).toNat)
  case atStart => exact ⟨0, n.keys.length, by omega, by omega, rfl, rfl, fun a h => (by omega), fun h => (by omega), 0, rfl⟩
  case round =>
    obtain ⟨i, j, hij, hj, rfl, rfl, hp1, hp2, m, rfl⟩ := hrel
    have HP1 := Lib.hid hp1
    have HP2 := Lib.hid hp2
    clear hp1 hp2
    by_cases hlt : i < j
    · obtain ⟨M, hM⟩ : ∃ M, M = (i + j) / 2 := ⟨_, rfl⟩
      have e1 : ((i : Int) + (j : Int)) / 2 = (M : Int) := by omega
      have hM1 : i ≤ M := by omega
      have hM2 : M < j := by omega
      have hMl : M < n.keys.length := by omega
      clear hM
      have hcl := HB.out m M hMl
      cases hb : less n.keys[M] key with
      | true =>
        rw [hb] at hcl
        have HS := Lib.hid (show ∀ a, a + 1 = M + 1 → ∀ h : a < n.keys.length, less n.keys[a] key = true from fun a e h => by
          obtain rfl : a = M := by omega
          exact hb)
        clear hb
        go_wp2_with fail
        refine hcl.mono ?_
        rintro e w' ⟨rfl, nn, rfl⟩
        clear hcl
        go_wp2_with fail
        go_roundw
        case rel => exact ⟨M + 1, j, by omega, by omega, by go_num, rfl, HS.out, HP2.out, _, rfl⟩
        case measure => simp [intOf]; omega
      | false =>
        rw [hb] at hcl
        have HS := Lib.hid (show ∀ h : M < n.keys.length, less n.keys[M] key = false from fun _ => hb)
        clear hb
        go_wp2_with fail
        refine hcl.mono ?_
        rintro e w' ⟨rfl, nn, rfl⟩
        clear hcl
        go_wp2_with fail
        go_roundw
        case rel => exact ⟨i, M, by omega, by omega, rfl, by go_num, HP1.out, HS.out, _, rfl⟩
        case measure => simp [intOf]; omega
    · obtain rfl : i = j := by omega
      have HE := Lib.hid (show i = pos n.keys key from pos_eq HU.out key hj HP1.out HP2.out)
      go_wp2_with fail
      go_ret
      exact ⟨ret_int (by rw [HE.out]), m, rfl⟩
/-- where a key is -/
def at_ (n : Nd) (key : ByteArray) : Nat := pos n.keys key + (if has n.keys key && !n.leaf then 1 else 0)
set_option maxRecDepth 100000 in
set_option maxHeartbeats 3200000 in
theorem find_any (W : World) (n : Nd) (h : Hd) (key : ByteArray) (hl : Lay W n h) (hu : Up n.keys) (hk : n.keys.length ≤ 1000) :
    Calls Try.prog 24 #[nv n h, .string key] W fun e w' => e = .returned (.tuple #[.int .i64 (at_ n key : Nat), .bool (has n.keys key)]) ∧ Below W.heap.size W w' := by
  have bx0 := bx_new W n h
  have b0 := box_below W n h
  have b1 := al (box W n h) (.cells #[.string key] 9)
  have bx1 := bx0.below b1
  have hb1 := Below.step b0 b1
  have hl1 := (hl.below b0).below b1
  have hsz : (box W n h).heap.size = W.heap.size + 1 := by simp
  have hkc : ((box W n h).alloc (.cells #[.string key] 9)).cell? ⟨W.heap.size + 1, 0, none⟩ = some (.string key) := by rw [← hsz, cell_new]; rfl
  obtain ⟨w1, hw1⟩ : ∃ v, v = (box W n h).alloc (.cells #[.string key] 9) := ⟨_, rfl⟩
  rw [← hw1] at bx1 hb1 hl1 hkc
  unfold box at hw1
  have HW1 := Lib.hid hw1
  clear hw1 bx0 b0 b1 hl hsz
  have hse := search_any w1 W.heap.size (W.heap.size + 1) n.keys.length n h key rfl bx1 hkc hl1.k hk hu
  have hmf : ∀ (fn : Fn) (first cap : Array Value) (w : World), (Instr.makeFunc fn first cap).run Try.prog w = .ok (.func fn first cap) w := fun _ _ _ _ => rfl
  have HX := Lib.hid bx1
  have HL := Lib.hid hl1
  have HB := Lib.hid hb1
  have HK := Lib.hid hkc
  have HH := Lib.hid (has_at hu key)
  have HP := Lib.hid (pos_le n.keys key)
  obtain ⟨c0, c1, c2, c3, _⟩ := bx1
  clear hl1 hb1 hu
  go_enter Try.func24, Try.ntmps24
  go_wp2_with fail
  rw [← HW1.out]
  go_wp2_with fail
  refine hse.mono ?_
  rintro e w2 ⟨rfl, m, rfl⟩
  clear hse c0 c1 c2 c3 hkc
  have hat : (at_ n key : Nat) = pos n.keys key + (if has n.keys key && !n.leaf then 1 else 0) := rfl
  have HAT := Lib.hid hat
  clear hat
  obtain ⟨c0, c1, c2, c3, _⟩ := HX.out.below (Base.below_drewN w1 _ m)
  have hkc : (w1.drewN m).cell? ⟨W.heap.size + 1, 0, none⟩ = some (.string key) := HK.out
  have hb2 : Below W.heap.size W (w1.drewN m) := HB.out.trans (Base.below_drewN w1 _ m)
  have HB2 := Lib.hid hb2
  have hrk : Row (w1.drewN m) w1.heap.size h.K (strs n.keys) := HL.out.k
  clear hb2 HX HK HB HW1
  generalize hw2 : w1.drewN m = w2 at *
  clear hw2
  by_cases hp : pos n.keys key < n.keys.length
  · have hd1 : ((pos n.keys key : Nat) : Int) < (n.keys.length : Int) := by omega
    obtain ⟨ad, hKe, hb, hcell⟩ := strs_get hrk (pos n.keys key) hp
    rw [hKe] at c1
    clear hKe hrk
    by_cases he : n.keys[pos n.keys key] = key
    · have hh : has n.keys key = true := HH.out.2 ⟨hp, he⟩
      rw [he] at hcell
      rw [hh] at HAT
      have HHE := Lib.hid hh
      clear hh he
      have heq : (key.toList == key.toList) = true := by simp
      generalize hps : pos n.keys key = p at *
      clear hps
      cases hleaf : n.leaf with
      | true =>
        rw [hleaf] at c0 HAT
        go_wp2_with fail
        go_quiet (fail)
        go_wp2_with fail
        go_ret2
        exact ⟨by rw [HAT.out, HHE.out]; simp, by exact HB2.out.trans (Base.below_drewN _ _ _)⟩
      | false =>
        rw [hleaf] at c0 HAT
        go_wp2_with fail
        go_quiet (fail)
        go_wp2_with fail
        go_ret2
        exact ⟨by rw [HAT.out, HHE.out]; simp, by exact HB2.out.trans (Base.below_drewN _ _ _)⟩
    · have hh : has n.keys key = false := Bool.eq_false_iff.2 fun q => he (HH.out.1 q).2
      have heq : (n.keys[pos n.keys key].toList == key.toList) = false := by rw [Str.ba_beq, decide_eq_false_iff_not]; exact he
      rw [hh] at HAT
      have HHE := Lib.hid hh
      clear hh he
      generalize n.keys[pos n.keys key] = q at *
      generalize hps : pos n.keys key = p at *
      clear hps
      go_wp2_with fail
      go_quiet (fail)
      go_wp2_with fail
      go_ret2
      exact ⟨by rw [HAT.out, HHE.out]; simp, by exact HB2.out.trans (Base.below_drewN _ _ _)⟩
  · have hh : has n.keys key = false := Bool.eq_false_iff.2 fun q => hp (HH.out.1 q).1
    have hd1 : decide (((pos n.keys key : Nat) : Int) < (n.keys.length : Int)) = false := decide_eq_false (by omega)
    rw [hh] at HAT
    have HHE := Lib.hid hh
    clear hh hrk
    generalize hps : pos n.keys key = p at *
    clear hps
    go_wp2_with fail
    go_quiet (fail)
    go_wp2_with fail
    go_ret2
    exact ⟨by rw [HAT.out, HHE.out]; simp, by exact HB2.out.trans (Base.below_drewN _ _ _)⟩
end Go.Proofs.Ytpcpfcllgadghaa.NodeFind
