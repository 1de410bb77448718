/- Contracts of layer 4's small functions: Room, Fits, few, fieldsOf, check. -/
import Derived.Test.YtcnblgienombeaaRows
import Derived.Test.YtcnblgienombeaaSumOf
import Derived.Test.YtcnblgienombeaaPagePlain
import Derived.Handy
namespace Go.Proofs.Ytcnblgienombeaa.PageSmall
open Go.RowKit Base PagePlain

def strs (cs : List ByteArray) : List Value := cs.map Value.string
theorem strs_get {w : World} {B : Nat} {A : Option Addr} {cs : List ByteArray} (h : Row w B A (strs cs)) (k : Nat) (hk : k < cs.length) : ∃ ad, A = some ad ∧ ad.block < B ∧ w.cell? (ad.add k) = some (.string cs[k]) := by
  obtain ⟨ad, e, hb, hc⟩ := h.get k (by simpa [strs] using hk)
  exact ⟨ad, e, hb, by rw [hc]; simp [strs]⟩
/-- a page's value -/
abbrev pv (p : Pg) (A : Option Addr) (c : Nat) : Value := .agg #[.int .i64 p.kind, .int .i64 p.no, .int .i64 p.epoch, .int .i64 p.link, .slice A p.cells.length c]
theorem ints (a b : Nat) : ((a : Int) = b) = (a = b) := by simp only [Int.ofNat_inj]

set_option maxHeartbeats 800000 in
theorem room_any (w : World) (A : Option Addr) (m c : Nat) (cs : List ByteArray) (hm : m = cs.length) (hr : Row w w.heap.size A (strs cs)) (hl : cs.length ≤ 1000) (hz : ∀ q ∈ cs, q.size ≤ 1000) :
    Calls Try.prog 47 #[.slice A m c] w fun e w' => e = .returned (.int .i64 (room cs : Nat)) ∧ w = w' := by
  subst hm
  have ht := tot_le cs 1000 hz
  go_enter Try.func47, Try.ntmps47
  go_wp2_with fail
  go_loop [3, 11] (fun v i => ∃ k : Nat, k ≤ cs.length ∧ i = .int .i64 k ∧ v = .int .i64 ((2 * cs.length + tot (cs.take k) : Nat) : Int)) (fun _ i => cs.length - (intOf i).toNat)
  case atStart => exact ⟨0, by omega, rfl, by simp [tot]⟩
  case round =>
    obtain ⟨k, hk, rfl, rfl⟩ := hrel
    by_cases hlt : k < cs.length
    · have HT := Lib.hid (tot_take cs k hlt)
      have h1 : tot (cs.take (k + 1)) ≤ tot cs := by
        have := tot_append (cs.take (k + 1)) (cs.drop (k + 1)); rw [List.take_append_drop] at this; omega
      rw [HT.out] at h1
      obtain ⟨ad, rfl, hb, hc⟩ := strs_get hr k hlt
      generalize cs[k] = q at *
      generalize tot (cs.take k) = t at *
      generalize cs.length = n at *
      go_wp2_with fail
      go_round
      case rel => exact ⟨k + 1, by omega, by go_num, by rw [HT.out]; go_num⟩
      case measure => simp [intOf]; omega
    · obtain rfl : k = cs.length := by omega
      rw [List.take_of_length_le (Nat.le_refl _)]
      go_wp2_with fail
      go_ret
      exact ⟨ret_int (by unfold room; rfl), rfl⟩
theorem fits_any (w : World) (A : Option Addr) (m c : Nat) (cs : List ByteArray) (hm : m = cs.length) (hr : Row w w.heap.size A (strs cs)) (hl : cs.length ≤ 1000) (hz : ∀ q ∈ cs, q.size ≤ 1000) :
    Calls Try.prog 42 #[.slice A m c] w fun e w' => e = .returned (.bool (decide (room cs ≤ 236))) ∧ w = w' := by
  have hh := room_any w A m c cs hm hr hl hz
  clear hm hr hl hz
  go_enter Try.func42, Try.ntmps42
  go_wp2_with fail
  refine hh.mono ?_
  rintro e w' ⟨rfl, rfl⟩
  clear hh
  go_wp2_with fail
  go_ret
  exact ⟨ret_bool (decide_eq_decide.2 (by omega)), rfl⟩
theorem fields_any (w : World) (p : Pg) (A : Option Addr) (c : Nat) :
    Calls Try.prog 39 #[pv p A c] w fun e w' => e = .returned (.agg #[.int .i64 p.no, .int .i64 p.epoch, .int .i64 p.link]) ∧ Below w.heap.size w w' := by
  obtain ⟨k, n, ep, li, cs⟩ := p
  simp only [pv]
  go_enter Try.func39, Try.ntmps39
  go_wp2_with fail
  go_returns
  refine ⟨rfl, ?_⟩
  go_grown
def fld (p : Pg) : Nat → Int
  | 0 => p.no
  | 1 => p.epoch
  | _ => p.link
theorem good_iff (p : Pg) : PgOk p ↔ (1 ≤ p.kind ∧ p.kind ≤ 255) ∧ ∀ j, j < 3 → 0 ≤ fld p j ∧ fld p j ≤ 4294967295 := by
  constructor
  · rintro ⟨h1, h2, h3, h4, h5, h6, h7, h8⟩
    refine ⟨⟨h1, h2⟩, fun j hj => ?_⟩
    match j, hj with
    | 0, _ => exact ⟨h3, h4⟩
    | 1, _ => exact ⟨h5, h6⟩
    | 2, _ => exact ⟨h7, h8⟩
  · rintro ⟨⟨h1, h2⟩, h⟩
    exact ⟨h1, h2, (h 0 (by omega)).1, (h 0 (by omega)).2, (h 1 (by omega)).1, (h 1 (by omega)).2, (h 2 (by omega)).1, (h 2 (by omega)).2⟩
set_option maxRecDepth 100000 in
set_option maxHeartbeats 1600000 in
theorem check_any (w : World) (p : Pg) (A : Option Addr) (c : Nat) (hr : Row w w.heap.size A (strs p.cells)) (hl : p.cells.length ≤ 1000) (hz : ∀ q ∈ p.cells, q.size ≤ 1000) :
    Calls Try.prog 29 #[pv p A c] w fun e w' => e = .returned (.int .i64 (err p)) ∧ Below w.heap.size w w' := by
  have hb : Below w.heap.size w (w.alloc (.cells #[.int .i64 p.kind, .int .i64 p.no, .int .i64 p.epoch, .int .i64 p.link, .slice A p.cells.length c] 37)) := (Below.refl _ _).alloc (Nat.le_refl _) _
  have hf := fits_any (w.alloc (.cells #[.int .i64 p.kind, .int .i64 p.no, .int .i64 p.epoch, .int .i64 p.link, .slice A p.cells.length c] 37)) A p.cells.length c p.cells rfl (hr.belowSize hb) hl hz
  have hfd := fields_any (w.alloc (.cells #[.int .i64 p.kind, .int .i64 p.no, .int .i64 p.epoch, .int .i64 p.link, .slice A p.cells.length c] 37)) p A c
  have HG := Lib.hid (good_iff p)
  have HE := Lib.hid (show err p = if room p.cells ≤ 236 then if PgOk p then 0 else 41 else 40 from rfl)
  have f0 : fld p 0 = p.no := rfl
  have f1 : fld p 1 = p.epoch := rfl
  have f2 : fld p 2 = p.link := rfl
  generalize fld p = f at *
  generalize err p = er at *
  have hnot : ∀ (x : Bool) (w : World), (Op.unary .not (.bool x)).run Try.prog w = .ok (.bool (!x)) w := fun _ _ => rfl
  clear hr hl hz
  obtain ⟨k, n, ep, li, cs⟩ := p
  simp only [pv] at *
  have HF := Lib.hid f0
  have HF1 := Lib.hid f1
  have HF2 := Lib.hid f2
  clear f0 f1 f2
  by_cases hro : room cs ≤ 236
  · have hE2 := HE.out
    rw [if_pos hro] at hE2
    have HE2 := Lib.hid hE2
    clear hE2 HE
    rw [decide_eq_true hro] at hf
    by_cases hk : 1 ≤ k ∧ k ≤ 255
    · obtain ⟨hk1, hk2⟩ := hk
      go_enter Try.func29, Try.ntmps29
      go_wp2_with fail
      refine hf.mono ?_
      rintro e w1 ⟨rfl, rfl⟩
      clear hf
      go_wp2_with fail
      refine hfd.mono ?_
      rintro e w1 ⟨rfl, hb1⟩
      clear hfd
      have hb2 := Below.step hb hb1
      clear hb hb1
      go_wp2_with fail
      go_loop [19] (fun i => ∃ j : Nat, j ≤ 3 ∧ i = .int .i64 j ∧ ∀ q, q < j → 0 ≤ f q ∧ f q ≤ 4294967295) (fun i => 3 - (intOf i).toNat)
      case atStart => exact ⟨0, by omega, rfl, fun q hq => by omega⟩
      case round =>
        obtain ⟨j, hj, rfl, hq⟩ := hrel
        have HQ := Lib.hid hq
        clear hq
        by_cases hlt : j < 3
        · have hfj : ∃ z, f j = z ∧ ∀ w, (Instr.index 93 (.agg #[.int .i64 n, .int .i64 ep, .int .i64 li]) (.int .i64 (j : Int))).run Try.prog w = .ok (.int .i64 z) w := by
            match j, hlt with
            | 0, _ => exact ⟨n, HF.out, fun w => by kernel_rfl⟩
            | 1, _ => exact ⟨ep, HF1.out, fun w => by kernel_rfl⟩
            | 2, _ => exact ⟨li, HF2.out, fun w => by kernel_rfl⟩
          obtain ⟨z, hz, hget⟩ := hfj
          have HZ := Lib.hid hz
          clear hz
          by_cases hin : 0 ≤ z ∧ z ≤ 4294967295
          · obtain ⟨z1, z2⟩ := hin
            go_wp2_with fail
            go_round
            case rel =>
              refine ⟨j + 1, by omega, by go_num, fun q hq => ?_⟩
              by_cases e : q = j
              · subst e; rw [HZ.out]; exact ⟨z1, z2⟩
              · exact HQ.out q (by omega)
            case measure => simp [intOf]; omega
          · have hEr : er = 41 := by
              rw [HE2.out, if_neg]
              intro hg
              have := (HG.out.1 hg).2 j hlt
              rw [HZ.out] at this
              exact hin this
            subst hEr
            clear HE2
            by_cases z1 : z < 0
            · go_wp2_with fail
              go_ret
              exact ⟨rfl, hb2⟩
            · have z2 : 4294967295 < z := by omega
              clear hin
              go_wp2_with fail
              go_ret
              exact ⟨rfl, hb2⟩
        · obtain rfl : j = 3 := by omega
          have hEr : er = 0 := by
            rw [HE2.out, if_pos]
            exact HG.out.2 ⟨⟨hk1, hk2⟩, HQ.out⟩
          subst hEr
          clear HE2
          go_wp2_with fail
          go_ret
          exact ⟨rfl, hb2⟩
    · have hEr : er = 41 := by
        rw [HE2.out, if_neg]
        intro hg
        exact hk (HG.out.1 hg).1
      subst hEr
      clear HE2
      by_cases k1 : k < 1
      · go_enter Try.func29, Try.ntmps29
        go_wp2_with fail
        refine hf.mono ?_
        rintro e w1 ⟨rfl, rfl⟩
        clear hf hfd
        go_wp2_with fail
        go_ret
        exact ⟨rfl, hb⟩
      · have k2 : 255 < k := by omega
        clear hk
        go_enter Try.func29, Try.ntmps29
        go_wp2_with fail
        refine hf.mono ?_
        rintro e w1 ⟨rfl, rfl⟩
        clear hf hfd
        go_wp2_with fail
        go_ret
        exact ⟨rfl, hb⟩
  · have hEr : er = 40 := by rw [HE.out, if_neg hro]
    subst hEr
    clear HE
    rw [decide_eq_false hro] at hf
    clear hfd
    go_enter Try.func29, Try.ntmps29
    go_wp2_with fail
    refine hf.mono ?_
    rintro e w1 ⟨rfl, rfl⟩
    clear hf
    go_wp2_with fail
    go_ret
    exact ⟨rfl, hb⟩
end Go.Proofs.Ytcnblgienombeaa.PageSmall
