/- The walk of SuperTurns, by what the calls are asked for. -/
import Derived.Test.YtcnblgienombeaaSuperTurnPlain
import Derived.Test.YtcnblgienombeaaInv2
import Derived.Test.YtcnblgienombeaaFrames
namespace Go.Proofs.Ytcnblgienombeaa.SuperTurns
open Go.RowKit Base SumPlain SumMem SumFill SumOf PagePlain PageSmall PageBytes PageLay PagePut PageFour PageAwake SuperPlain SuperRefCheck SuperPlumb SuperSpec SuperAwake SuperTurnPlain
open Blk (mk mk_run mk_below mk_blk Blk8)

structure JR (l : List Sp) (ad : Addr) (W : World) (g bx bs p0 p1 c0 c1 : Nat) (l0 l1 : List UInt8) (cur : Sp) (m : Int) (n0 : Nat) (w : World) : Prop where
  jj : JX W g bx bs p0 p1 c0 c1 l0 l1 cur m w
  jr : Row w w.heap.size (some ad) (fls l)
  jn : n0 ≤ w.heap.size
theorem JR.below {l : List Sp} {ad : Addr} {W w w' : World} {g bx bs p0 p1 c0 c1 : Nat} {l0 l1 : List UInt8} {cur : Sp} {m : Int} {n0 : Nat} (h : JR l ad W g bx bs p0 p1 c0 c1 l0 l1 cur m n0 w) (hb : Below w.heap.size w w') : JR l ad W g bx bs p0 p1 c0 c1 l0 l1 cur m n0 w' :=
  ⟨h.jj.below hb, h.jr.belowSize hb, Nat.le_trans h.jn hb.size⟩
/-- a new box -/
def NB (n0 : Nat) (v : Value) (w : World) : Prop := ∃ b, v = .pointer (some ⟨b, 0, none⟩) ∧ n0 ≤ b ∧ Bs w b zer
theorem NB.below {n0 : Nat} {v : Value} {w w' : World} (h : NB n0 v w) (hb : Below w.heap.size w w') : NB n0 v w' := by
  obtain ⟨b, h1, h2, h3⟩ := h
  exact ⟨b, h1, h2, h3.below hb⟩
theorem nb_new {n0 : Nat} (w : World) (h : n0 ≤ w.heap.size) : NB n0 (.pointer (some ⟨w.heap.size, 0, none⟩)) (w.alloc (.cells #[.int .i64 0, .int .i64 0, .int .i64 0, .int .i64 0] 23)) := ⟨_, rfl, h, bs_new w zer⟩
theorem row_cell {w : World} {B : Nat} {ad : Addr} {vs : List Value} {i : Nat} {v : Value} (h : Row w B (some ad) vs) (hv : vs[i]? = some v) : w.cell? (ad.add i) = some v := by
  obtain ⟨_, e, _, hc⟩ := h i v hv
  injection e with e
  subst e
  exact hc
abbrev S0 : Sp := ⟨0, 0, 0, 2⟩
theorem ok0 : Ok S0 := by decide
set_option maxRecDepth 100000 in
set_option maxHeartbeats 12800000 in
theorem turns_any (S : Specs) (W : World) (A : Option Addr) (c : Nat) (l : List Sp) (hr : Row W W.heap.size A (fls l)) (hl : l.length ≤ maxLen) (hin : ∀ x ∈ l, InS x) : Calls Try.prog 7 #[.slice A l.length c] W (Law W) := by
  have HS := Lib.hid S
  clear S
  have HIN := Lib.hid hin
  clear hin
  unfold maxLen at hl
  have HR := Lib.hid hr
  clear hr
  unfold Law
  have hcall := new_s W
  go_enter Try.func7, Try.ntmps7
  go_wp2_with fail
  (with_reducible refine hcall.mono ?_)
  clear hcall
  rintro e w2 ⟨g, rfl, s2⟩
  have hcall := awake_any HS.out w2
  unfold Law at hcall
  go_wp2_with fail
  (with_reducible refine hcall.mono ?_)
  clear hcall
  rintro e w3 ⟨rfl, b3⟩
  have s3 := s2.below b3
  clear s2 b3
  by_cases h20 : l.length ≤ 20
  rotate_left
  · have hlt : (20 : Int) < (l.length : Int) := by omega
    have hcall := awake_any HS.out w3
    unfold Law at hcall
    generalize l.length = n at *
    go_wp2_with fail
    (with_reducible refine hcall.mono ?_)
    clear hcall
    rintro e w4 ⟨rfl, b4⟩
    have s4 := s3.below b4
    go_wp2_with fail
    go_ret
    exact ⟨rfl, s4.base⟩
  have hnlt : ¬ (20 : Int) < (l.length : Int) := by omega
  obtain ⟨w4, hw4⟩ : ∃ v, v = w3.alloc (.cells #[.int .i64 0, .int .i64 0, .int .i64 0, .int .i64 2] 23) := ⟨_, rfl⟩
  have hb4 : Below w3.heap.size w3 w4 := by rw [hw4]; exact al' _ _
  have x4 : Bs w4 w3.heap.size S0 := by rw [hw4]; exact bs_new w3 S0
  have s4 := s3.below hb4
  have hxg : w3.heap.size ≠ g := by have := s3.lt; omega
  have hxW : W.heap.size ≤ w3.heap.size := s3.base.size
  have HW4 := Lib.hid hw4
  clear s3 hb4 hw4
  generalize hbx : w3.heap.size = bx at *
  obtain ⟨c0, c1, c2, c3⟩ := x4.cells
  have hcall := put_s HS.out s4 (by omega) S0 (ok_in ok0)
  go_upto_region 5 with fail
  try rw [← HW4.out]
  try rw [hbx]
  clear hnlt
  go_wp2_with fail
  (with_reducible refine hcall.mono ?_)
  clear hcall c0 c1 c2 c3 HW4 hbx
  rintro e w5 ⟨s5, o5, ⟨_, pa, t0, rfl, hb5, a5⟩ | ⟨hn, _⟩⟩
  case inr => exact absurd ok0 hn
  rw [show (S0.ep % 2 : Int) = 0 from rfl]
  have x5 := x4.only o5 hxg
  have hp0x : pa ≠ bx := by have := x4.lt; omega
  have hp0g : pa ≠ g := by have := s4.lt; omega
  clear x4 s4 o5 hb5
  have hmk : (Instr.makeSlice 27 (.int .i64 256) (.int .i64 256)).run Try.prog w5 = .ok (.slice (some ⟨w5.heap.size, 0, none⟩) 256 256) (mk w5 256) := mk_run w5 256 (by omega)
  have hmb := mk_below w5 256
  have q6 := mk_blk w5 256
  have x6 := x5.below hmb
  have s6 := s5.below hmb
  have a6 := a5.below hmb
  have hp1g : w5.heap.size ≠ g := by have := s5.lt; omega
  have hp1x : w5.heap.size ≠ bx := by have := x5.lt; omega
  generalize w5.heap.size = pb at *
  generalize mk w5 256 = w6 at *
  clear x5 s5 a5 hmb
  obtain ⟨w7, hw7⟩ : ∃ v, v = w6.alloc (.cells #[.slice (some ⟨pa, 0, none⟩) 256 256, .slice (some ⟨pb, 0, none⟩) 256 256] 48) := ⟨_, rfl⟩
  have hb7 : Below w6.heap.size w6 w7 := by rw [hw7]; exact al' _ _
  have jb7 : At w7 w6.heap.size 48 #[.slice (some ⟨pa, 0, none⟩) 256 256, .slice (some ⟨pb, 0, none⟩) 256 256] := by rw [hw7]; exact heap_alloc_new w6 _
  have j7 : JX W g bx w6.heap.size pa pb 256 256 (sbytes S0) (List.replicate 256 0) S0 (0 + 2000) w7 := ⟨s6.below hb7, x6.below hb7, jb7, Arr.rowX (a6.below hb7) hp0g, (q6.below hb7).rowX hp1g⟩
  have hsg : w6.heap.size ≠ g := by have := s6.lt; omega
  have hsx : w6.heap.size ≠ bx := by have := x6.lt; omega
  have hsW : W.heap.size ≤ w6.heap.size := s6.base.size
  have hp0s : pa ≠ w6.heap.size := by have := At.lt a6; omega
  have hp1s : pb ≠ w6.heap.size := by have := q6.lt; omega
  have HW7 := Lib.hid hw7
  clear x6 s6 a6 q6 jb7 hb7 hw7
  generalize hbs : w6.heap.size = bs at *
  go_upto_region 7 with fail
  try rw [← HW7.out]
  try rw [hbs]
  clear HW7 hbs hmk
  go_wp2_with fail
  go_loopw [9] (fun i wr => ∃ (k p0 p1 c0 c1 : Nat) (l0 l1 : List UInt8) (cur : Sp), k ≤ l.length ∧ i = .int .i64 k ∧ JX W g bx bs p0 p1 c0 c1 l0 l1 cur (2000 + 4000 * (k : Int)) wr ∧ l0.length = 256 ∧ l1.length = 256 ∧ 256 ≤ c0 ∧ 256 ≤ c1 ∧ (p0 ≠ bx ∧ p0 ≠ bs ∧ p1 ≠ bx ∧ p1 ≠ bs) ∧ Ok cur ∧ cur.ep ≤ k ∧ (if cur.ep % 2 = 0 then l0 else l1) = sbytes cur) (fun i _ => l.length - (intOf i).toNat)
  case atStart => exact ⟨0, pa, pb, 256, 256, _, _, S0, by omega, rfl, j7, sbytes_len _, by simp, by omega, by omega, ⟨hp0x, hp0s, hp1x, hp1s⟩, ok0, by decide, rfl⟩
  case round =>
    clear j7 hp0x hp0s hp1x hp1s hp0g hp1g
    obtain ⟨k, p0, p1, k0, k1, l0, l1, cur, hk, rfl, hj, hl0, hl1, hk0, hk1, hap, hok, hep, hsl⟩ := hrel
    by_cases hlt : k < l.length
    rotate_left
    · have hn : ¬ (k : Int) < (l.length : Int) := by omega
      go_wp2_with fail
      go_ret
      exact ⟨rfl, hj.js.base⟩
    have hlt' : (k : Int) < (l.length : Int) := by omega
    obtain ⟨x, hx⟩ : ∃ x, l[k]? = some x := ⟨_, List.getElem?_eq_getElem hlt⟩
    obtain ⟨q0, q1, q2, q3⟩ := fls_at hx
    obtain ⟨ad, hA, _, _⟩ := HR.out _ _ q1
    subst hA
    have hrow : Row wr wr.heap.size (some ad) (fls l) := HR.out.belowSize hj.js.base
    have hj0 : JR l ad W g bx bs p0 p1 k0 k1 l0 l1 cur (2000 + 4000 * (k : Int)) wr.heap.size wr := ⟨hj, hrow, Nat.le_refl _⟩
    have hl0' : 0 < (bv l0).length := by simp [bv, hl0]
    have hl1' : 0 < (bv l1).length := by simp [bv, hl1]
    have hp0n : p0 < wr.heap.size := by obtain ⟨_, e, h, _⟩ := hj.r0.get 0 hl0'; injection e with e; subst e; exact h
    have hp1n : p1 < wr.heap.size := by obtain ⟨_, e, h, _⟩ := hj.r1.get 0 hl1'; injection e with e; subst e; exact h
    clear hl0' hl1'
    have Hs := Lib.hid (And.intro hj.js.lt (And.intro hj.jx.lt (And.intro (At.lt hj.jb) (And.intro hj.js.base.size (And.intro hp0n hp1n)))))
    clear hp0n hp1n
    generalize wr.heap.size = n0 at hj0 Hs
    go_upto_region 10 with fail
    have hJ0 := hj0.below (Below.refl _ _).drew
    clear hj hrow hj0
    have HSL := Lib.hid hsl
    have HOK := Lib.hid hok
    clear hsl hok
    refine wp_region_any (by kernel_rfl) ?_
    change wpAny _ _ _ _ _ _ _ (World.drew _)
    refine Inv.inv_any (fun (i : Nat) (v : Value) (w : World) => match i with | 0 => v = .agg #[.int .i64 cur.ep, .int .i64 cur.root, .int .i64 cur.free, .int .i64 cur.pages] | 1 => v = .slice (some ad) l.length c | 2 => v = .int .i64 (k : Int) | 3 => v = .pointer (some (ad.add (k * 4))) | 4 => v = .pointer (some ((ad.add (k * 4)).add 1)) | 5 => v = .int .i64 x.root | 6 => v = .slice (some ad) l.length c | 7 => v = .int .i64 (k : Int) | 8 => v = .pointer (some (ad.add (k * 4))) | 9 => v = .pointer (some ((ad.add (k * 4)).add 2)) | 10 => v = .int .i64 x.free | 11 => v = .slice (some ad) l.length c | 12 => v = .int .i64 (k : Int) | 13 => v = .pointer (some (ad.add (k * 4))) | 14 => v = .pointer (some ((ad.add (k * 4)).add 3)) | 15 => v = .int .i64 x.pages | 16 => v = .agg #[.int .i64 (cur.ep + 1), .int .i64 x.root, .int .i64 x.free, .int .i64 x.pages] | 17 => NB n0 v w | _ => True) (fun w' : World => JR l ad W g bx bs p0 p1 k0 k1 l0 l1 cur (2000 + 4000 * (k : Int)) n0 w') _ 18 118 rfl rfl rfl (by kernel_rfl) (by kernel_rfl) hJ0 ?_ ?_ ?_ ?_
    · intro j v w w' h hb
      match j, h with
      | 0, h => exact h
      | 1, h => exact h
      | 2, h => exact h
      | 3, h => exact h
      | 4, h => exact h
      | 5, h => exact h
      | 6, h => exact h
      | 7, h => exact h
      | 8, h => exact h
      | 9, h => exact h
      | 10, h => exact h
      | 11, h => exact h
      | 12, h => exact h
      | 13, h => exact h
      | 14, h => exact h
      | 15, h => exact h
      | 16, h => exact h
      | 17, h => exact NB.below h hb
      | 18, _ => exact trivial
      | (_ + 19), _ => exact trivial
    · skip
      refine Inv.from_cons _ _ _ _ rfl (fun _ a w hJ hF F K hK => ?_) ?_
      · have hz : a.tmps.size = 118 := hF.size
        have e4 : a.tmps[4]? = some (.pointer (some ⟨bx, 0, none⟩)) := Inv2.some_slot (by rw [hz]; exact Nat.le_of_ble_eq_true rfl) (hF.slot 4 (by kernel_rfl))
        clear F hF hz
        have hJ1 := hJ
        obtain ⟨jj, jr, jn⟩ := hJ1
        obtain ⟨d0, d1, d2, d3⟩ := jj.jx.cells
        go_simp
        exact hK (.agg #[.int .i64 cur.ep, .int .i64 cur.root, .int .i64 cur.free, .int .i64 cur.pages]) _ hJ (Below.refl _ _) rfl
      refine Inv.from_cons _ _ _ _ rfl (fun _ a w hJ hF F K hK => ?_) ?_
      · have hz : a.tmps.size = 118 := hF.size
        have e0 : a.tmps[0]? = some (.slice (some ad) l.length c) := Inv2.some_slot (by rw [hz]; exact Nat.le_of_ble_eq_true rfl) (hF.slot 0 (by kernel_rfl))
        clear F hF hz
        have hJ1 := hJ
        obtain ⟨jj, jr, jn⟩ := hJ1
        go_simp
        exact hK (.slice (some ad) l.length c) _ hJ (Below.refl _ _) rfl
      refine Inv.from_cons _ _ _ _ rfl (fun _ a w hJ hF F K hK => ?_) ?_
      · have hz : a.tmps.size = 118 := hF.size
        have e9 : a.tmps[9]? = some (.int .i64 (k : Int)) := Inv2.some_slot (by rw [hz]; exact Nat.le_of_ble_eq_true rfl) (hF.slot 9 (by kernel_rfl))
        clear F hF hz
        have hJ1 := hJ
        obtain ⟨jj, jr, jn⟩ := hJ1
        go_simp
        exact hK (.int .i64 (k : Int)) _ hJ (Below.refl _ _) rfl
      refine Inv.from_cons _ _ _ _ rfl (fun _ a w hJ hF F K hK => ?_) ?_
      · have hz : a.tmps.size = 118 := hF.size
        have e51 : a.tmps[51]? = some (.slice (some ad) l.length c) := Inv2.some_slot (by rw [hz]; exact Nat.le_of_ble_eq_true rfl) (F 1 (by kernel_rfl) 51 rfl)
        have e52 : a.tmps[52]? = some (.int .i64 (k : Int)) := Inv2.some_slot (by rw [hz]; exact Nat.le_of_ble_eq_true rfl) (F 2 (by kernel_rfl) 52 rfl)
        clear F hF hz
        have hJ1 := hJ
        obtain ⟨jj, jr, jn⟩ := hJ1
        go_simp
        exact hK (.pointer (some (ad.add (k * 4)))) _ hJ (Below.refl _ _) rfl
      refine Inv.from_cons _ _ _ _ rfl (fun _ a w hJ hF F K hK => ?_) ?_
      · have hz : a.tmps.size = 118 := hF.size
        have e53 : a.tmps[53]? = some (.pointer (some (ad.add (k * 4)))) := Inv2.some_slot (by rw [hz]; exact Nat.le_of_ble_eq_true rfl) (F 3 (by kernel_rfl) 53 rfl)
        clear F hF hz
        have hJ1 := hJ
        obtain ⟨jj, jr, jn⟩ := hJ1
        go_simp
        exact hK (.pointer (some ((ad.add (k * 4)).add 1))) _ hJ (Below.refl _ _) rfl
      refine Inv.from_cons _ _ _ _ rfl (fun _ a w hJ hF F K hK => ?_) ?_
      · have hz : a.tmps.size = 118 := hF.size
        have e54 : a.tmps[54]? = some (.pointer (some ((ad.add (k * 4)).add 1))) := Inv2.some_slot (by rw [hz]; exact Nat.le_of_ble_eq_true rfl) (F 4 (by kernel_rfl) 54 rfl)
        clear F hF hz
        have hJ1 := hJ
        obtain ⟨jj, jr, jn⟩ := hJ1
        have hq := row_cell jr q1
        rw [← Go.Deep.add_add] at hq
        have hq1 : w.cell? { block := (ad.add (k * 4)).block, off := (ad.add (k * 4)).off + 1 } = some (.int .i64 x.root) := hq
        clear hq
        go_simp
        exact hK (.int .i64 x.root) _ hJ (Below.refl _ _) rfl
      refine Inv.from_cons _ _ _ _ rfl (fun _ a w hJ hF F K hK => ?_) ?_
      · have hz : a.tmps.size = 118 := hF.size
        have e0 : a.tmps[0]? = some (.slice (some ad) l.length c) := Inv2.some_slot (by rw [hz]; exact Nat.le_of_ble_eq_true rfl) (hF.slot 0 (by kernel_rfl))
        clear F hF hz
        have hJ1 := hJ
        obtain ⟨jj, jr, jn⟩ := hJ1
        go_simp
        exact hK (.slice (some ad) l.length c) _ hJ (Below.refl _ _) rfl
      refine Inv.from_cons _ _ _ _ rfl (fun _ a w hJ hF F K hK => ?_) ?_
      · have hz : a.tmps.size = 118 := hF.size
        have e9 : a.tmps[9]? = some (.int .i64 (k : Int)) := Inv2.some_slot (by rw [hz]; exact Nat.le_of_ble_eq_true rfl) (hF.slot 9 (by kernel_rfl))
        clear F hF hz
        have hJ1 := hJ
        obtain ⟨jj, jr, jn⟩ := hJ1
        go_simp
        exact hK (.int .i64 (k : Int)) _ hJ (Below.refl _ _) rfl
      refine Inv.from_cons _ _ _ _ rfl (fun _ a w hJ hF F K hK => ?_) ?_
      · have hz : a.tmps.size = 118 := hF.size
        have e56 : a.tmps[56]? = some (.slice (some ad) l.length c) := Inv2.some_slot (by rw [hz]; exact Nat.le_of_ble_eq_true rfl) (F 6 (by kernel_rfl) 56 rfl)
        have e57 : a.tmps[57]? = some (.int .i64 (k : Int)) := Inv2.some_slot (by rw [hz]; exact Nat.le_of_ble_eq_true rfl) (F 7 (by kernel_rfl) 57 rfl)
        clear F hF hz
        have hJ1 := hJ
        obtain ⟨jj, jr, jn⟩ := hJ1
        go_simp
        exact hK (.pointer (some (ad.add (k * 4)))) _ hJ (Below.refl _ _) rfl
      refine Inv.from_cons _ _ _ _ rfl (fun _ a w hJ hF F K hK => ?_) ?_
      · have hz : a.tmps.size = 118 := hF.size
        have e58 : a.tmps[58]? = some (.pointer (some (ad.add (k * 4)))) := Inv2.some_slot (by rw [hz]; exact Nat.le_of_ble_eq_true rfl) (F 8 (by kernel_rfl) 58 rfl)
        clear F hF hz
        have hJ1 := hJ
        obtain ⟨jj, jr, jn⟩ := hJ1
        go_simp
        exact hK (.pointer (some ((ad.add (k * 4)).add 2))) _ hJ (Below.refl _ _) rfl
      refine Inv.from_cons _ _ _ _ rfl (fun _ a w hJ hF F K hK => ?_) ?_
      · have hz : a.tmps.size = 118 := hF.size
        have e59 : a.tmps[59]? = some (.pointer (some ((ad.add (k * 4)).add 2))) := Inv2.some_slot (by rw [hz]; exact Nat.le_of_ble_eq_true rfl) (F 9 (by kernel_rfl) 59 rfl)
        clear F hF hz
        have hJ1 := hJ
        obtain ⟨jj, jr, jn⟩ := hJ1
        have hq := row_cell jr q2
        rw [← Go.Deep.add_add] at hq
        have hq1 : w.cell? { block := (ad.add (k * 4)).block, off := (ad.add (k * 4)).off + 2 } = some (.int .i64 x.free) := hq
        clear hq
        go_simp
        exact hK (.int .i64 x.free) _ hJ (Below.refl _ _) rfl
      refine Inv.from_cons _ _ _ _ rfl (fun _ a w hJ hF F K hK => ?_) ?_
      · have hz : a.tmps.size = 118 := hF.size
        have e0 : a.tmps[0]? = some (.slice (some ad) l.length c) := Inv2.some_slot (by rw [hz]; exact Nat.le_of_ble_eq_true rfl) (hF.slot 0 (by kernel_rfl))
        clear F hF hz
        have hJ1 := hJ
        obtain ⟨jj, jr, jn⟩ := hJ1
        go_simp
        exact hK (.slice (some ad) l.length c) _ hJ (Below.refl _ _) rfl
      refine Inv.from_cons _ _ _ _ rfl (fun _ a w hJ hF F K hK => ?_) ?_
      · have hz : a.tmps.size = 118 := hF.size
        have e9 : a.tmps[9]? = some (.int .i64 (k : Int)) := Inv2.some_slot (by rw [hz]; exact Nat.le_of_ble_eq_true rfl) (hF.slot 9 (by kernel_rfl))
        clear F hF hz
        have hJ1 := hJ
        obtain ⟨jj, jr, jn⟩ := hJ1
        go_simp
        exact hK (.int .i64 (k : Int)) _ hJ (Below.refl _ _) rfl
      refine Inv.from_cons _ _ _ _ rfl (fun _ a w hJ hF F K hK => ?_) ?_
      · have hz : a.tmps.size = 118 := hF.size
        have e61 : a.tmps[61]? = some (.slice (some ad) l.length c) := Inv2.some_slot (by rw [hz]; exact Nat.le_of_ble_eq_true rfl) (F 11 (by kernel_rfl) 61 rfl)
        have e62 : a.tmps[62]? = some (.int .i64 (k : Int)) := Inv2.some_slot (by rw [hz]; exact Nat.le_of_ble_eq_true rfl) (F 12 (by kernel_rfl) 62 rfl)
        clear F hF hz
        have hJ1 := hJ
        obtain ⟨jj, jr, jn⟩ := hJ1
        go_simp
        exact hK (.pointer (some (ad.add (k * 4)))) _ hJ (Below.refl _ _) rfl
      refine Inv.from_cons _ _ _ _ rfl (fun _ a w hJ hF F K hK => ?_) ?_
      · have hz : a.tmps.size = 118 := hF.size
        have e63 : a.tmps[63]? = some (.pointer (some (ad.add (k * 4)))) := Inv2.some_slot (by rw [hz]; exact Nat.le_of_ble_eq_true rfl) (F 13 (by kernel_rfl) 63 rfl)
        clear F hF hz
        have hJ1 := hJ
        obtain ⟨jj, jr, jn⟩ := hJ1
        go_simp
        exact hK (.pointer (some ((ad.add (k * 4)).add 3))) _ hJ (Below.refl _ _) rfl
      refine Inv.from_cons _ _ _ _ rfl (fun _ a w hJ hF F K hK => ?_) ?_
      · have hz : a.tmps.size = 118 := hF.size
        have e64 : a.tmps[64]? = some (.pointer (some ((ad.add (k * 4)).add 3))) := Inv2.some_slot (by rw [hz]; exact Nat.le_of_ble_eq_true rfl) (F 14 (by kernel_rfl) 64 rfl)
        clear F hF hz
        have hJ1 := hJ
        obtain ⟨jj, jr, jn⟩ := hJ1
        have hq := row_cell jr q3
        rw [← Go.Deep.add_add] at hq
        have hq1 : w.cell? { block := (ad.add (k * 4)).block, off := (ad.add (k * 4)).off + 3 } = some (.int .i64 x.pages) := hq
        clear hq
        go_simp
        exact hK (.int .i64 x.pages) _ hJ (Below.refl _ _) rfl
      refine Inv.from_cons _ _ _ _ rfl (fun _ a w hJ hF F K hK => ?_) ?_
      · have hz : a.tmps.size = 118 := hF.size
        have e50 : a.tmps[50]? = some (.agg #[.int .i64 cur.ep, .int .i64 cur.root, .int .i64 cur.free, .int .i64 cur.pages]) := Inv2.some_slot (by rw [hz]; exact Nat.le_of_ble_eq_true rfl) (F 0 (by kernel_rfl) 50 rfl)
        have e55 : a.tmps[55]? = some (.int .i64 x.root) := Inv2.some_slot (by rw [hz]; exact Nat.le_of_ble_eq_true rfl) (F 5 (by kernel_rfl) 55 rfl)
        have e60 : a.tmps[60]? = some (.int .i64 x.free) := Inv2.some_slot (by rw [hz]; exact Nat.le_of_ble_eq_true rfl) (F 10 (by kernel_rfl) 60 rfl)
        have e65 : a.tmps[65]? = some (.int .i64 x.pages) := Inv2.some_slot (by rw [hz]; exact Nat.le_of_ble_eq_true rfl) (F 15 (by kernel_rfl) 65 rfl)
        clear F hF hz
        have hJ1 := hJ
        obtain ⟨jj, jr, jn⟩ := hJ1
        have hh := HS.out.next w cur x.root x.free x.pages HOK.out.1 HOK.out.2.1
        go_simp
        (with_reducible refine hh.mono ?_)
        rintro e' w' ⟨rfl, hb⟩
        go_simp
        exact hK _ _ (hJ.below hb) hb rfl
      refine Inv.from_cons _ _ _ _ rfl (fun _ a w hJ hF F K hK => ?_) ?_
      · have hz : a.tmps.size = 118 := hF.size
        clear F hF hz
        have hJ1 := hJ
        obtain ⟨jj, jr, jn⟩ := hJ1
        go_simp
        exact hK _ _ (hJ.below (al' _ _)) (al' _ _) (nb_new w jn)
      refine Inv.from_skip _ _ _ _ rfl ?_
      exact Inv.from_end _ _ _ _ (by decide +kernel)
    · intro o ho a w hJ hF F K hK
      injection (show some _ = some o from ho) with ho
      subst ho
      obtain ⟨f, hf⟩ : ∃ f : Nat → Value, ∀ i, a.tmps.getD i undef = f i := ⟨_, fun _ => rfl⟩
      have g0 : f 0 = (.slice (some ad) l.length c) := (hf 0).symm.trans (hF.slot 0 (by kernel_rfl))
      have g1 : f 1 = (undef) := (hf 1).symm.trans (hF.slot 1 (by kernel_rfl))
      have g3 : f 3 = (.pointer (some ⟨g, 0, none⟩)) := (hf 3).symm.trans (hF.slot 3 (by kernel_rfl))
      have g4 : f 4 = (.pointer (some ⟨bx, 0, none⟩)) := (hf 4).symm.trans (hF.slot 4 (by kernel_rfl))
      have g5 : f 5 = (.slice (some ⟨pa, 0, none⟩) 256 256) := (hf 5).symm.trans (hF.slot 5 (by kernel_rfl))
      have g6 : f 6 = (.int .i64 0) := (hf 6).symm.trans (hF.slot 6 (by kernel_rfl))
      have g7 : f 7 = (.int .i64 0) := (hf 7).symm.trans (hF.slot 7 (by kernel_rfl))
      have g8 : f 8 = (.pointer (some ⟨bs, 0, none⟩)) := (hf 8).symm.trans (hF.slot 8 (by kernel_rfl))
      have g9 : f 9 = (.int .i64 (k : Int)) := (hf 9).symm.trans (hF.slot 9 (by kernel_rfl))
      have g16 : f 16 = (.pointer (some ⟨g, 0, none⟩)) := (hf 16).symm.trans (hF.slot 16 (by kernel_rfl))
      have g17 : f 17 = (.bool true) := (hf 17).symm.trans (hF.slot 17 (by kernel_rfl))
      have g18 : f 18 = (.bool false) := (hf 18).symm.trans (hF.slot 18 (by kernel_rfl))
      have g19 : f 19 = (.bool false) := (hf 19).symm.trans (hF.slot 19 (by kernel_rfl))
      have g20 : f 20 = (.pointer (some ⟨g, 0, none⟩)) := (hf 20).symm.trans (hF.slot 20 (by kernel_rfl))
      have g21 : f 21 = (.bool false) := (hf 21).symm.trans (hF.slot 21 (by kernel_rfl))
      have g22 : f 22 = (.bool false) := (hf 22).symm.trans (hF.slot 22 (by kernel_rfl))
      have g23 : f 23 = (.bool false) := (hf 23).symm.trans (hF.slot 23 (by kernel_rfl))
      have g24 : f 24 = (.slice (some ad) l.length c) := (hf 24).symm.trans (hF.slot 24 (by kernel_rfl))
      have g25 : f 25 = (.int .i64 (l.length : Int)) := (hf 25).symm.trans (hF.slot 25 (by kernel_rfl))
      have g26 : f 26 = (.bool (decide ((20 : Int) < (l.length : Int)))) := (hf 26).symm.trans (hF.slot 26 (by kernel_rfl))
      have g27 : f 27 = (.bool (decide ((20 : Int) < (l.length : Int)))) := (hf 27).symm.trans (hF.slot 27 (by kernel_rfl))
      have g28 : f 28 = (undef) := (hf 28).symm.trans (hF.slot 28 (by kernel_rfl))
      have g29 : f 29 = (.agg #[.int .i64 0, .int .i64 0, .int .i64 0, .int .i64 2]) := (hf 29).symm.trans (hF.slot 29 (by kernel_rfl))
      have g30 : f 30 = (.tuple #[.slice (some ⟨pa, 0, none⟩) 256 256, .int .i64 0, .int .i64 0]) := (hf 30).symm.trans (hF.slot 30 (by kernel_rfl))
      have g31 : f 31 = (.pointer (some ⟨g, 0, none⟩)) := (hf 31).symm.trans (hF.slot 31 (by kernel_rfl))
      have g32 : f 32 = (.agg #[.int .i64 0, .int .i64 0, .int .i64 0, .int .i64 2]) := (hf 32).symm.trans (hF.slot 32 (by kernel_rfl))
      have g33 : f 33 = (.tuple #[.slice (some ⟨pa, 0, none⟩) 256 256, .int .i64 0, .int .i64 0]) := (hf 33).symm.trans (hF.slot 33 (by kernel_rfl))
      have g34 : f 34 = (.slice (some ⟨pa, 0, none⟩) 256 256) := (hf 34).symm.trans (hF.slot 34 (by kernel_rfl))
      have g35 : f 35 = (.int .i64 0) := (hf 35).symm.trans (hF.slot 35 (by kernel_rfl))
      have g36 : f 36 = (.int .i64 0) := (hf 36).symm.trans (hF.slot 36 (by kernel_rfl))
      have g37 : f 37 = (.slice (some ⟨pa, 0, none⟩) 256 256) := (hf 37).symm.trans (hF.slot 37 (by kernel_rfl))
      have g38 : f 38 = (.slice (some ⟨pb, 0, none⟩) 256 256) := (hf 38).symm.trans (hF.slot 38 (by kernel_rfl))
      have g39 : f 39 = (.agg #[.slice (some ⟨pa, 0, none⟩) 256 256, .slice (some ⟨pb, 0, none⟩) 256 256]) := (hf 39).symm.trans (hF.slot 39 (by kernel_rfl))
      have g116 : f 116 = (undef) := (hf 116).symm.trans (hF.slot 116 (by kernel_rfl))
      have g117 : f 117 = (undef) := (hf 117).symm.trans (hF.slot 117 (by kernel_rfl))
      have g50 : f 50 = (.agg #[.int .i64 cur.ep, .int .i64 cur.root, .int .i64 cur.free, .int .i64 cur.pages]) := (hf 50).symm.trans (F 0 (by decide) 50 rfl)
      have g51 : f 51 = (.slice (some ad) l.length c) := (hf 51).symm.trans (F 1 (by decide) 51 rfl)
      have g52 : f 52 = (.int .i64 (k : Int)) := (hf 52).symm.trans (F 2 (by decide) 52 rfl)
      have g53 : f 53 = (.pointer (some (ad.add (k * 4)))) := (hf 53).symm.trans (F 3 (by decide) 53 rfl)
      have g54 : f 54 = (.pointer (some ((ad.add (k * 4)).add 1))) := (hf 54).symm.trans (F 4 (by decide) 54 rfl)
      have g55 : f 55 = (.int .i64 x.root) := (hf 55).symm.trans (F 5 (by decide) 55 rfl)
      have g56 : f 56 = (.slice (some ad) l.length c) := (hf 56).symm.trans (F 6 (by decide) 56 rfl)
      have g57 : f 57 = (.int .i64 (k : Int)) := (hf 57).symm.trans (F 7 (by decide) 57 rfl)
      have g58 : f 58 = (.pointer (some (ad.add (k * 4)))) := (hf 58).symm.trans (F 8 (by decide) 58 rfl)
      have g59 : f 59 = (.pointer (some ((ad.add (k * 4)).add 2))) := (hf 59).symm.trans (F 9 (by decide) 59 rfl)
      have g60 : f 60 = (.int .i64 x.free) := (hf 60).symm.trans (F 10 (by decide) 60 rfl)
      have g61 : f 61 = (.slice (some ad) l.length c) := (hf 61).symm.trans (F 11 (by decide) 61 rfl)
      have g62 : f 62 = (.int .i64 (k : Int)) := (hf 62).symm.trans (F 12 (by decide) 62 rfl)
      have g63 : f 63 = (.pointer (some (ad.add (k * 4)))) := (hf 63).symm.trans (F 13 (by decide) 63 rfl)
      have g64 : f 64 = (.pointer (some ((ad.add (k * 4)).add 3))) := (hf 64).symm.trans (F 14 (by decide) 64 rfl)
      have g65 : f 65 = (.int .i64 x.pages) := (hf 65).symm.trans (F 15 (by decide) 65 rfl)
      have g66 : f 66 = (.agg #[.int .i64 (cur.ep + 1), .int .i64 x.root, .int .i64 x.free, .int .i64 x.pages]) := (hf 66).symm.trans (F 16 (by decide) 66 rfl)
      obtain ⟨x10, g10⟩ : ∃ x, f 10 = x := ⟨_, rfl⟩
      have f17 : NB n0 x10 w := by rw [← g10, ← hf 10]; exact F 17 (by decide) 10 rfl
      have ha := Frames.frame (show a.tmps.size = 118 from hF.size) hF.defers hf (l := [f 0, f 1, f 2, f 3, f 4, f 5, f 6, f 7, f 8, f 9, f 10, f 11, f 12, f 13, f 14, f 15, f 16, f 17, f 18, f 19, f 20, f 21, f 22, f 23, f 24, f 25, f 26, f 27, f 28, f 29, f 30, f 31, f 32, f 33, f 34, f 35, f 36, f 37, f 38, f 39, f 40, f 41, f 42, f 43, f 44, f 45, f 46, f 47, f 48, f 49, f 50, f 51, f 52, f 53, f 54, f 55, f 56, f 57, f 58, f 59, f 60, f 61, f 62, f 63, f 64, f 65, f 66, f 67, f 68, f 69, f 70, f 71, f 72, f 73, f 74, f 75, f 76, f 77, f 78, f 79, f 80, f 81, f 82, f 83, f 84, f 85, f 86, f 87, f 88, f 89, f 90, f 91, f 92, f 93, f 94, f 95, f 96, f 97, f 98, f 99, f 100, f 101, f 102, f 103, f 104, f 105, f 106, f 107, f 108, f 109, f 110, f 111, f 112, f 113, f 114, f 115, f 116, f 117]) rfl
      simp only [g0, g1, g3, g4, g5, g6, g7, g8, g9, g16, g17, g18, g19, g20, g21, g22, g23, g24, g25, g26, g27, g28, g29, g30, g31, g32, g33, g34, g35, g36, g37, g38, g39, g116, g117, g50, g51, g52, g53, g54, g55, g56, g57, g58, g59, g60, g61, g62, g63, g64, g65, g66, g10] at ha
      clear F hF hf g0 g1 g3 g4 g5 g6 g7 g8 g9 g16 g17 g18 g19 g20 g21 g22 g23 g24 g25 g26 g27 g28 g29 g30 g31 g32 g33 g34 g35 g36 g37 g38 g39 g116 g117 g50 g51 g52 g53 g54 g55 g56 g57 g58 g59 g60 g61 g62 g63 g64 g65 g66 g10
      subst ha
      have hJ1 := hJ
      obtain ⟨jj, jr, jn⟩ := hJ1
      obtain ⟨nb, rfl, hnb, hnz⟩ := f17
      clear hJ
      obtain ⟨z0, z1, z2, z3⟩ := hnz.cells
      have y0 := At.frozen hnz 0
      have y1 := At.frozen hnz 1
      have y2 := At.frozen hnz 2
      have y3 := At.frozen hnz 3
      go_simp
      refine hK _ _ ?_
      clear hK z0 z1 z2 z3 y0 y1 y2 y3 jr
      clear jn
      obtain ⟨hgn, hxn, hsn, hWn, hp0n, hp1n⟩ := Hs.out
      clear Hs
      obtain ⟨wA, hwA⟩ : ∃ v, v = (((w.setCell ⟨nb, 0, none⟩ (.int .i64 (cur.ep + 1))).setCell ⟨nb, 1, none⟩ (.int .i64 x.root)).setCell ⟨nb, 2, none⟩ (.int .i64 x.free)).setCell ⟨nb, 3, none⟩ (.int .i64 x.pages) := ⟨_, rfl⟩
      rw [← hwA]
      have nA : Bs wA nb ⟨cur.ep + 1, x.root, x.free, x.pages⟩ := by rw [hwA]; exact over_at hnz ⟨cur.ep + 1, x.root, x.free, x.pages⟩
      have jA : JX W g bx bs p0 p1 k0 k1 l0 l1 cur (2000 + 4000 * (k : Int)) wA := by rw [hwA]; exact jj.boxed nb ⟨cur.ep + 1, x.root, x.free, x.pages⟩ (by omega) (by omega) (by omega) (by omega) (by omega) (by omega)
      clear hwA jj hnz
      have hInN : InS ⟨cur.ep + 1, x.root, x.free, x.pages⟩ := by
        have h := HIN.out x (List.mem_of_getElem? hx)
        obtain ⟨_, h2, h3, h4⟩ := h
        have h0 := HOK.out.1
        refine ⟨?_, h2, h3, h4⟩
        show In (cur.ep + 1)
        unfold In
        omega
      have HIX := Lib.hid hInN
      clear hInN
      have h0e := HOK.out.1
      obtain ⟨z0, z1, z2, z3⟩ := nA.cells
      have hcall := put_s HS.out jA.js (by omega) ⟨cur.ep + 1, x.root, x.free, x.pages⟩ HIX.out
      go_wp2_with fail
      (with_reducible refine hcall.mono ?_)
      clear hcall z0 z1 z2 z3
      rintro e wB ⟨sB, oB, hcase⟩
      have hgA := jA.js.lt
      have hnA := nA.lt
      have hsA := At.lt jA.jb
      have hxA := jA.jx.lt
      have nB := nA.only oB (by omega)
      have jB := jA.only oB sB hxg hsg
      clear jA nA oB sB
      have hr := rcheck_any wB ⟨cur.ep + 1, x.root, x.free, x.pages⟩
      obtain ⟨z0, z1, z2, z3⟩ := nB.cells
      by_cases hokn : Ok ⟨cur.ep + 1, x.root, x.free, x.pages⟩
      rotate_left
      · rcases hcase with ⟨hn, _⟩ | ⟨_, rfl⟩
        · exact absurd hn hokn
        rw [decide_eq_false hokn] at hr
        clear hokn
        go_wp2_with fail
        (with_reducible refine hr.mono ?_)
        clear hr z0 z1 z2 z3 nB
        rintro e wC ⟨rfl, bC⟩
        have jC := (jB.below bC).wide (m' := 2000 + 4000 * ((k + 1 : Nat) : Int)) (by omega)
        clear jB bC
        go_wp2_with fail
        go_roundw
        case rel =>
          exact ⟨k + 1, p0, p1, k0, k1, l0, l1, cur, by omega, by go_num, jC, hl0, hl1, hk0, hk1, hap, HOK.out, by omega, HSL.out⟩
        case measure => simp [intOf]; omega
      rcases hcase with ⟨_, q, t, rfl, hqn, aB⟩ | ⟨hn, _⟩
      rotate_left
      · exact absurd hokn hn
      rw [decide_eq_true hokn] at hr
      have HOKN := Lib.hid hokn
      clear hokn
      have hqg : q ≠ g := by omega
      have hqx : q ≠ bx := by omega
      have hqs : q ≠ bs := by omega
      go_wp2_with fail
      (with_reducible refine hr.mono ?_)
      clear hr z0 z1 z2 z3 hqn hnA hsA hxA hgA
      rintro e wC ⟨rfl, bC⟩
      have nC := nB.below bC
      have jC := jB.below bC
      have aC := aB.below bC
      clear nB jB aB bC
      obtain ⟨z0, z1, z2, z3⟩ := nC.cells
      have em : (cur.ep + 1).tmod 2 = (cur.ep + 1) % 2 := Int.tmod_eq_emod_of_nonneg (by omega)
      have hpar : (cur.ep + 1) % 2 = 0 ∨ (cur.ep + 1) % 2 = 1 := by omega
      rcases hpar with hpar | hpar
      · rw [hpar] at em ⊢
        have jE := jC.below (Below.refl _ _).drew
        have nE := nC.below (Below.refl _ _).drew
        have aE := aC.below (Below.refl _ _).drew
        have hpk := pick_next (n := ⟨cur.ep + 1, x.root, x.free, x.pages⟩) (l0 := l0) (l1 := l1) HOK.out HOKN.out rfl HSL.out
        rw [if_pos (show (cur.ep + 1) % 2 = 0 from hpar), if_pos (show (cur.ep + 1) % 2 = 0 from hpar)] at hpk
        have HPK := Lib.hid hpk
        have HPAR := Lib.hid hpar
        clear hpk hpar jC aC
        go_upto_region 17 with fail
        clear em z0 z1 z2 z3 nC
        refine wp_region_any (by kernel_rfl) ?_
        change wpAny _ _ _ _ _ _ _ (World.drew _)
        generalize World.drew wC = wE at jE nE aE ⊢
        obtain ⟨wD, hwD⟩ : ∃ v, v = wE.setCell ⟨bs, 0, none⟩ (.slice (some ⟨q, 0, none⟩) 256 256) := ⟨_, rfl⟩
        have nD : Bs wD nb ⟨cur.ep + 1, x.root, x.free, x.pages⟩ := by rw [hwD]; exact nE.far (show nb ≠ bs by omega) _
        have xD : Bs wD bx cur := by rw [hwD]; exact jE.jx.far hsx.symm _
        obtain ⟨wF, hwF⟩ : ∃ v, v = (((wD.setCell ⟨bx, 0, none⟩ (.int .i64 (cur.ep + 1))).setCell ⟨bx, 1, none⟩ (.int .i64 x.root)).setCell ⟨bx, 2, none⟩ (.int .i64 x.free)).setCell ⟨bx, 3, none⟩ (.int .i64 x.pages) := ⟨_, rfl⟩
        have jF : JX W g bx bs q p1 256 k1 (sbytes ⟨cur.ep + 1, x.root, x.free, x.pages⟩) l1 ⟨cur.ep + 1, x.root, x.free, x.pages⟩ (2000 + 4000 * (k : Int) + 2000) wF := by
          rw [hwF, hwD]
          exact JX.told0 jE ⟨cur.ep + 1, x.root, x.free, x.pages⟩ (Arr.rowX aE hqg) ⟨hxg.symm, hsg.symm⟩ ⟨hxW, hsW⟩ hsx.symm ⟨hap.2.2.1, hap.2.2.2⟩ ⟨hqx, hqs⟩
        obtain ⟨z0, z1, z2, z3⟩ := nE.cells
        obtain ⟨n0', n1', n2', n3'⟩ := nD.cells
        obtain ⟨d0, d1, d2, d3⟩ := xD.cells
        have b0 : wE.cell? ⟨bs, 0, none⟩ = some (.slice (some ⟨p0, 0, none⟩) 256 k0) := by rw [jE.jb.cell]; rfl
        have b1 : wE.cell? ⟨bs, 1, none⟩ = some (.slice (some ⟨p1, 0, none⟩) 256 k1) := by rw [jE.jb.cell]; rfl
        have g0 := At.frozen jE.jb 0
        have g1 := At.frozen jE.jb 1
        have v0 := At.frozen xD 0
        have v1 := At.frozen xD 1
        have v2 := At.frozen xD 2
        have v3 := At.frozen xD 3
        have HWD := Lib.hid hwD
        have HWF := Lib.hid hwF
        have HJF := Lib.hid jF
        clear hwD hwF jF jE nE nD xD aE
        refine Reg.take_at (i := 0) (d := 96) (v := ?_) rfl rfl (by kernel_rfl) (by kernel_rfl) (by kernel_rfl) (fun _ _ _ h => h) (Or.inl ⟨by rfl, ?_⟩) ?_
        rotate_left 1
        · intro w; go_simp <;> with_reducible rfl
        simp only [Act.put, List.setIfInBounds_toArray, List.set_cons_zero, List.set_cons_succ]
        refine Reg.take_at (i := 1) (d := 97) (v := ?_) rfl rfl (by kernel_rfl) (by kernel_rfl) (by kernel_rfl) (fun _ _ _ h => h) (Or.inl ⟨by rfl, ?_⟩) ?_
        rotate_left 1
        · intro w; go_simp <;> with_reducible rfl
        simp only [Act.put, List.setIfInBounds_toArray, List.set_cons_zero, List.set_cons_succ]
        refine Reg.take_at (i := 3) (d := 99) (v := ?_) rfl rfl (by kernel_rfl) (by kernel_rfl) (by kernel_rfl) (fun _ _ _ h => h) (Or.inl ⟨by rfl, ?_⟩) ?_
        rotate_left 1
        · intro w; go_simp <;> with_reducible rfl
        simp only [Act.put, List.setIfInBounds_toArray, List.set_cons_zero, List.set_cons_succ]
        refine wpAny_ready (rs := [2, 4]) (by decide +kernel) (by simp) ?_
        refine AllReady.cons rfl (fun KK hK => ?_) ?_
        · go_simp
          refine hK _ _ ?_
          clear hK KK
          refine wpAny_ready (rs := [4]) (by decide +kernel) (by simp) ?_
          refine AllReady.cons rfl (fun KK hK => ?_) AllReady.nil
          go_simp
          rw [← HWD.out]
          refine hK _ _ ?_
          clear hK KK
          refine wpAny_ready (rs := [5]) (by decide +kernel) (by simp) ?_
          refine AllReady.cons rfl (fun KK hK => ?_) AllReady.nil
          go_simp
          rw [← HWF.out]
          refine hK _ _ ?_
          clear hK KK
          refine wpAny_done (by kernel_rfl) ?_ _
          clear z0 z1 z2 z3 n0' n1' n2' n3' d0 d1 d2 d3 b0 b1 g0 g1 v0 v1 v2 v3
          have jF := HJF.out
          have b0 : wF.cell? ⟨bs, 0, none⟩ = some (.slice (some ⟨q, 0, none⟩) 256 256) := by rw [jF.jb.cell]; rfl
          have b1 : wF.cell? ⟨bs, 1, none⟩ = some (.slice (some ⟨p1, 0, none⟩) 256 k1) := by rw [jF.jb.cell]; rfl
          have hcall := pick_s HS.out jF.js (by omega) ⟨q, 0, none⟩ ⟨p1, 0, none⟩ 256 k1 (sbytes ⟨cur.ep + 1, x.root, x.free, x.pages⟩) l1 jF.r0 jF.r1 (sbytes_len _) hl1 (Nat.le_refl _) hk1
          rw [HPK.out, show ansOf (.inr ⟨cur.ep + 1, x.root, x.free, x.pages⟩) = .tuple #[.agg #[.int .i64 (cur.ep + 1), .int .i64 x.root, .int .i64 x.free, .int .i64 x.pages], .int .i64 0] from rfl] at hcall
          go_upto_region 18 with fail
          go_wp2_with fail
          (with_reducible refine hcall.mono ?_)
          clear hcall b0 b1
          rintro e wG ⟨rfl, sG, oG⟩
          have jG := jF.only oG sG hxg hsg
          clear jF sG oG
          obtain ⟨wH, hwH⟩ : ∃ v, v = wG.alloc (.cells #[.int .i64 (cur.ep + 1), .int .i64 x.root, .int .i64 x.free, .int .i64 x.pages] 23) := ⟨_, rfl⟩
          have hbH : Below wG.heap.size wG wH := by rw [hwH]; exact al' _ _
          have yH : Bs wH wG.heap.size ⟨cur.ep + 1, x.root, x.free, x.pages⟩ := by rw [hwH]; exact bs_new wG ⟨cur.ep + 1, x.root, x.free, x.pages⟩
          have jH := jG.below hbH
          have HWH := Lib.hid hwH
          clear hwH jG hbH
          generalize hby : wG.heap.size = yb at yH ⊢
          obtain ⟨z0, z1, z2, z3⟩ := yH.cells
          obtain ⟨d0, d1, d2, d3⟩ := jH.jx.cells
          have jK := (jH.wide (m' := 2000 + 4000 * ((k + 1 : Nat) : Int)) (by omega))
          clear jH yH
          go_upto_region 19 with fail
          try rw [← HWH.out]
          try rw [hby]
          clear hby
          go_wp2_with fail
          go_roundw
          case rel =>
            exact ⟨k + 1, q, p1, 256, k1, _, l1, _, by omega, by go_num, jK, sbytes_len _, hl1, Nat.le_refl _, hk1, ⟨hqx, hqs, hap.2.2.1, hap.2.2.2⟩, HOKN.out, by show cur.ep + 1 ≤ ((k + 1 : Nat) : Int); omega, by rw [if_pos (show (cur.ep + 1) % 2 = 0 from HPAR.out)]⟩
          case measure => simp [intOf]; omega
        refine AllReady.cons rfl (fun KK hK => ?_) AllReady.nil
        go_simp
        rw [← HWD.out]
        refine hK _ _ ?_
        clear hK KK
        refine wpAny_ready (rs := [2]) (by decide +kernel) (by simp) ?_
        refine AllReady.cons rfl (fun KK hK => ?_) AllReady.nil
        go_simp
        refine hK _ _ ?_
        clear hK KK
        refine wpAny_ready (rs := [5]) (by decide +kernel) (by simp) ?_
        refine AllReady.cons rfl (fun KK hK => ?_) AllReady.nil
        go_simp
        rw [← HWF.out]
        refine hK _ _ ?_
        clear hK KK
        refine wpAny_done (by kernel_rfl) ?_ _
        clear z0 z1 z2 z3 n0' n1' n2' n3' d0 d1 d2 d3 b0 b1 g0 g1 v0 v1 v2 v3
        have jF := HJF.out
        have b0 : wF.cell? ⟨bs, 0, none⟩ = some (.slice (some ⟨q, 0, none⟩) 256 256) := by rw [jF.jb.cell]; rfl
        have b1 : wF.cell? ⟨bs, 1, none⟩ = some (.slice (some ⟨p1, 0, none⟩) 256 k1) := by rw [jF.jb.cell]; rfl
        have hcall := pick_s HS.out jF.js (by omega) ⟨q, 0, none⟩ ⟨p1, 0, none⟩ 256 k1 (sbytes ⟨cur.ep + 1, x.root, x.free, x.pages⟩) l1 jF.r0 jF.r1 (sbytes_len _) hl1 (Nat.le_refl _) hk1
        rw [HPK.out, show ansOf (.inr ⟨cur.ep + 1, x.root, x.free, x.pages⟩) = .tuple #[.agg #[.int .i64 (cur.ep + 1), .int .i64 x.root, .int .i64 x.free, .int .i64 x.pages], .int .i64 0] from rfl] at hcall
        go_upto_region 18 with fail
        go_wp2_with fail
        (with_reducible refine hcall.mono ?_)
        clear hcall b0 b1
        rintro e wG ⟨rfl, sG, oG⟩
        have jG := jF.only oG sG hxg hsg
        clear jF sG oG
        obtain ⟨wH, hwH⟩ : ∃ v, v = wG.alloc (.cells #[.int .i64 (cur.ep + 1), .int .i64 x.root, .int .i64 x.free, .int .i64 x.pages] 23) := ⟨_, rfl⟩
        have hbH : Below wG.heap.size wG wH := by rw [hwH]; exact al' _ _
        have yH : Bs wH wG.heap.size ⟨cur.ep + 1, x.root, x.free, x.pages⟩ := by rw [hwH]; exact bs_new wG ⟨cur.ep + 1, x.root, x.free, x.pages⟩
        have jH := jG.below hbH
        have HWH := Lib.hid hwH
        clear hwH jG hbH
        generalize hby : wG.heap.size = yb at yH ⊢
        obtain ⟨z0, z1, z2, z3⟩ := yH.cells
        obtain ⟨d0, d1, d2, d3⟩ := jH.jx.cells
        have jK := (jH.wide (m' := 2000 + 4000 * ((k + 1 : Nat) : Int)) (by omega))
        clear jH yH
        go_upto_region 19 with fail
        try rw [← HWH.out]
        try rw [hby]
        clear hby
        go_wp2_with fail
        go_roundw
        case rel =>
          exact ⟨k + 1, q, p1, 256, k1, _, l1, _, by omega, by go_num, jK, sbytes_len _, hl1, Nat.le_refl _, hk1, ⟨hqx, hqs, hap.2.2.1, hap.2.2.2⟩, HOKN.out, by show cur.ep + 1 ≤ ((k + 1 : Nat) : Int); omega, by rw [if_pos (show (cur.ep + 1) % 2 = 0 from HPAR.out)]⟩
        case measure => simp [intOf]; omega
      · rw [hpar] at em ⊢
        have jE := jC.below (Below.refl _ _).drew
        have nE := nC.below (Below.refl _ _).drew
        have aE := aC.below (Below.refl _ _).drew
        have hpk := pick_next (n := ⟨cur.ep + 1, x.root, x.free, x.pages⟩) (l0 := l0) (l1 := l1) HOK.out HOKN.out rfl HSL.out
        rw [if_neg (show ¬ (cur.ep + 1) % 2 = 0 by omega), if_neg (show ¬ (cur.ep + 1) % 2 = 0 by omega)] at hpk
        have HPK := Lib.hid hpk
        have HPAR := Lib.hid hpar
        clear hpk hpar jC aC
        go_upto_region 17 with fail
        clear em z0 z1 z2 z3 nC
        refine wp_region_any (by kernel_rfl) ?_
        change wpAny _ _ _ _ _ _ _ (World.drew _)
        generalize World.drew wC = wE at jE nE aE ⊢
        obtain ⟨wD, hwD⟩ : ∃ v, v = wE.setCell ⟨bs, 1, none⟩ (.slice (some ⟨q, 0, none⟩) 256 256) := ⟨_, rfl⟩
        have nD : Bs wD nb ⟨cur.ep + 1, x.root, x.free, x.pages⟩ := by rw [hwD]; exact nE.far (show nb ≠ bs by omega) _
        have xD : Bs wD bx cur := by rw [hwD]; exact jE.jx.far hsx.symm _
        obtain ⟨wF, hwF⟩ : ∃ v, v = (((wD.setCell ⟨bx, 0, none⟩ (.int .i64 (cur.ep + 1))).setCell ⟨bx, 1, none⟩ (.int .i64 x.root)).setCell ⟨bx, 2, none⟩ (.int .i64 x.free)).setCell ⟨bx, 3, none⟩ (.int .i64 x.pages) := ⟨_, rfl⟩
        have jF : JX W g bx bs p0 q k0 256 l0 (sbytes ⟨cur.ep + 1, x.root, x.free, x.pages⟩) ⟨cur.ep + 1, x.root, x.free, x.pages⟩ (2000 + 4000 * (k : Int) + 2000) wF := by
          rw [hwF, hwD]
          exact JX.told1 jE ⟨cur.ep + 1, x.root, x.free, x.pages⟩ (Arr.rowX aE hqg) ⟨hxg.symm, hsg.symm⟩ ⟨hxW, hsW⟩ hsx.symm ⟨hap.1, hap.2.1⟩ ⟨hqx, hqs⟩
        obtain ⟨z0, z1, z2, z3⟩ := nE.cells
        obtain ⟨n0', n1', n2', n3'⟩ := nD.cells
        obtain ⟨d0, d1, d2, d3⟩ := xD.cells
        have b0 : wE.cell? ⟨bs, 0, none⟩ = some (.slice (some ⟨p0, 0, none⟩) 256 k0) := by rw [jE.jb.cell]; rfl
        have b1 : wE.cell? ⟨bs, 1, none⟩ = some (.slice (some ⟨p1, 0, none⟩) 256 k1) := by rw [jE.jb.cell]; rfl
        have g0 := At.frozen jE.jb 0
        have g1 := At.frozen jE.jb 1
        have v0 := At.frozen xD 0
        have v1 := At.frozen xD 1
        have v2 := At.frozen xD 2
        have v3 := At.frozen xD 3
        have HWD := Lib.hid hwD
        have HWF := Lib.hid hwF
        have HJF := Lib.hid jF
        clear hwD hwF jF jE nE nD xD aE
        refine Reg.take_at (i := 0) (d := 96) (v := ?_) rfl rfl (by kernel_rfl) (by kernel_rfl) (by kernel_rfl) (fun _ _ _ h => h) (Or.inl ⟨by rfl, ?_⟩) ?_
        rotate_left 1
        · intro w; go_simp <;> with_reducible rfl
        simp only [Act.put, List.setIfInBounds_toArray, List.set_cons_zero, List.set_cons_succ]
        refine Reg.take_at (i := 1) (d := 97) (v := ?_) rfl rfl (by kernel_rfl) (by kernel_rfl) (by kernel_rfl) (fun _ _ _ h => h) (Or.inl ⟨by rfl, ?_⟩) ?_
        rotate_left 1
        · intro w; go_simp <;> with_reducible rfl
        simp only [Act.put, List.setIfInBounds_toArray, List.set_cons_zero, List.set_cons_succ]
        refine Reg.take_at (i := 3) (d := 99) (v := ?_) rfl rfl (by kernel_rfl) (by kernel_rfl) (by kernel_rfl) (fun _ _ _ h => h) (Or.inl ⟨by rfl, ?_⟩) ?_
        rotate_left 1
        · intro w; go_simp <;> with_reducible rfl
        simp only [Act.put, List.setIfInBounds_toArray, List.set_cons_zero, List.set_cons_succ]
        refine wpAny_ready (rs := [2, 4]) (by decide +kernel) (by simp) ?_
        refine AllReady.cons rfl (fun KK hK => ?_) ?_
        · go_simp
          refine hK _ _ ?_
          clear hK KK
          refine wpAny_ready (rs := [4]) (by decide +kernel) (by simp) ?_
          refine AllReady.cons rfl (fun KK hK => ?_) AllReady.nil
          go_simp
          rw [← HWD.out]
          refine hK _ _ ?_
          clear hK KK
          refine wpAny_ready (rs := [5]) (by decide +kernel) (by simp) ?_
          refine AllReady.cons rfl (fun KK hK => ?_) AllReady.nil
          go_simp
          rw [← HWF.out]
          refine hK _ _ ?_
          clear hK KK
          refine wpAny_done (by kernel_rfl) ?_ _
          clear z0 z1 z2 z3 n0' n1' n2' n3' d0 d1 d2 d3 b0 b1 g0 g1 v0 v1 v2 v3
          have jF := HJF.out
          have b0 : wF.cell? ⟨bs, 0, none⟩ = some (.slice (some ⟨p0, 0, none⟩) 256 k0) := by rw [jF.jb.cell]; rfl
          have b1 : wF.cell? ⟨bs, 1, none⟩ = some (.slice (some ⟨q, 0, none⟩) 256 256) := by rw [jF.jb.cell]; rfl
          have hcall := pick_s HS.out jF.js (by omega) ⟨p0, 0, none⟩ ⟨q, 0, none⟩ k0 256 l0 (sbytes ⟨cur.ep + 1, x.root, x.free, x.pages⟩) jF.r0 jF.r1 hl0 (sbytes_len _) hk0 (Nat.le_refl _)
          rw [HPK.out, show ansOf (.inr ⟨cur.ep + 1, x.root, x.free, x.pages⟩) = .tuple #[.agg #[.int .i64 (cur.ep + 1), .int .i64 x.root, .int .i64 x.free, .int .i64 x.pages], .int .i64 0] from rfl] at hcall
          go_upto_region 18 with fail
          go_wp2_with fail
          (with_reducible refine hcall.mono ?_)
          clear hcall b0 b1
          rintro e wG ⟨rfl, sG, oG⟩
          have jG := jF.only oG sG hxg hsg
          clear jF sG oG
          obtain ⟨wH, hwH⟩ : ∃ v, v = wG.alloc (.cells #[.int .i64 (cur.ep + 1), .int .i64 x.root, .int .i64 x.free, .int .i64 x.pages] 23) := ⟨_, rfl⟩
          have hbH : Below wG.heap.size wG wH := by rw [hwH]; exact al' _ _
          have yH : Bs wH wG.heap.size ⟨cur.ep + 1, x.root, x.free, x.pages⟩ := by rw [hwH]; exact bs_new wG ⟨cur.ep + 1, x.root, x.free, x.pages⟩
          have jH := jG.below hbH
          have HWH := Lib.hid hwH
          clear hwH jG hbH
          generalize hby : wG.heap.size = yb at yH ⊢
          obtain ⟨z0, z1, z2, z3⟩ := yH.cells
          obtain ⟨d0, d1, d2, d3⟩ := jH.jx.cells
          have jK := (jH.wide (m' := 2000 + 4000 * ((k + 1 : Nat) : Int)) (by omega))
          clear jH yH
          go_upto_region 19 with fail
          try rw [← HWH.out]
          try rw [hby]
          clear hby
          go_wp2_with fail
          go_roundw
          case rel =>
            exact ⟨k + 1, p0, q, k0, 256, l0, _, _, by omega, by go_num, jK, hl0, sbytes_len _, hk0, Nat.le_refl _, ⟨hap.1, hap.2.1, hqx, hqs⟩, HOKN.out, by show cur.ep + 1 ≤ ((k + 1 : Nat) : Int); omega, by rw [if_neg (show ¬ (cur.ep + 1) % 2 = 0 by have := HPAR.out; omega)]⟩
          case measure => simp [intOf]; omega
        refine AllReady.cons rfl (fun KK hK => ?_) AllReady.nil
        go_simp
        rw [← HWD.out]
        refine hK _ _ ?_
        clear hK KK
        refine wpAny_ready (rs := [2]) (by decide +kernel) (by simp) ?_
        refine AllReady.cons rfl (fun KK hK => ?_) AllReady.nil
        go_simp
        refine hK _ _ ?_
        clear hK KK
        refine wpAny_ready (rs := [5]) (by decide +kernel) (by simp) ?_
        refine AllReady.cons rfl (fun KK hK => ?_) AllReady.nil
        go_simp
        rw [← HWF.out]
        refine hK _ _ ?_
        clear hK KK
        refine wpAny_done (by kernel_rfl) ?_ _
        clear z0 z1 z2 z3 n0' n1' n2' n3' d0 d1 d2 d3 b0 b1 g0 g1 v0 v1 v2 v3
        have jF := HJF.out
        have b0 : wF.cell? ⟨bs, 0, none⟩ = some (.slice (some ⟨p0, 0, none⟩) 256 k0) := by rw [jF.jb.cell]; rfl
        have b1 : wF.cell? ⟨bs, 1, none⟩ = some (.slice (some ⟨q, 0, none⟩) 256 256) := by rw [jF.jb.cell]; rfl
        have hcall := pick_s HS.out jF.js (by omega) ⟨p0, 0, none⟩ ⟨q, 0, none⟩ k0 256 l0 (sbytes ⟨cur.ep + 1, x.root, x.free, x.pages⟩) jF.r0 jF.r1 hl0 (sbytes_len _) hk0 (Nat.le_refl _)
        rw [HPK.out, show ansOf (.inr ⟨cur.ep + 1, x.root, x.free, x.pages⟩) = .tuple #[.agg #[.int .i64 (cur.ep + 1), .int .i64 x.root, .int .i64 x.free, .int .i64 x.pages], .int .i64 0] from rfl] at hcall
        go_upto_region 18 with fail
        go_wp2_with fail
        (with_reducible refine hcall.mono ?_)
        clear hcall b0 b1
        rintro e wG ⟨rfl, sG, oG⟩
        have jG := jF.only oG sG hxg hsg
        clear jF sG oG
        obtain ⟨wH, hwH⟩ : ∃ v, v = wG.alloc (.cells #[.int .i64 (cur.ep + 1), .int .i64 x.root, .int .i64 x.free, .int .i64 x.pages] 23) := ⟨_, rfl⟩
        have hbH : Below wG.heap.size wG wH := by rw [hwH]; exact al' _ _
        have yH : Bs wH wG.heap.size ⟨cur.ep + 1, x.root, x.free, x.pages⟩ := by rw [hwH]; exact bs_new wG ⟨cur.ep + 1, x.root, x.free, x.pages⟩
        have jH := jG.below hbH
        have HWH := Lib.hid hwH
        clear hwH jG hbH
        generalize hby : wG.heap.size = yb at yH ⊢
        obtain ⟨z0, z1, z2, z3⟩ := yH.cells
        obtain ⟨d0, d1, d2, d3⟩ := jH.jx.cells
        have jK := (jH.wide (m' := 2000 + 4000 * ((k + 1 : Nat) : Int)) (by omega))
        clear jH yH
        go_upto_region 19 with fail
        try rw [← HWH.out]
        try rw [hby]
        clear hby
        go_wp2_with fail
        go_roundw
        case rel =>
          exact ⟨k + 1, p0, q, k0, 256, l0, _, _, by omega, by go_num, jK, hl0, sbytes_len _, hk0, Nat.le_refl _, ⟨hap.1, hap.2.1, hqx, hqs⟩, HOKN.out, by show cur.ep + 1 ≤ ((k + 1 : Nat) : Int); omega, by rw [if_neg (show ¬ (cur.ep + 1) % 2 = 0 by have := HPAR.out; omega)]⟩
        case measure => simp [intOf]; omega
    · intro hq; exact absurd hq (by decide +kernel)
end Go.Proofs.Ytcnblgienombeaa.SuperTurns
