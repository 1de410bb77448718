/- The contract of Check, and of the document's Same. -/
import Derived.Test.YtffbmabhlgfjkaaFreeMem
namespace Go.Proofs.Ytffbmabhlgfjkaa.FreeCheck
open Go.RowKit Base FreePlain FreeMem

/-- item by item -/
def ck (z : Int) : Fs → Bool
  | [] => true
  | p :: l => decide (z < p.1) && decide (p.1 ≤ 4294967295) && decide (0 ≤ p.2) && decide (p.2 ≤ 4294967295) && ck p.1 l
theorem ck_iff : ∀ {l : Fs} {z : Int}, ck z l = true ↔ (∀ p ∈ l, z < p.1 ∧ p.1 ≤ 4294967295 ∧ 0 ≤ p.2 ∧ p.2 ≤ 4294967295) ∧ Rise l
  | [], z => by simp [ck, Rise]
  | p :: l, z => by
    simp only [ck, Bool.and_eq_true, decide_eq_true_eq, ck_iff (l := l), rise_cons]
    constructor
    · rintro ⟨⟨⟨⟨h1, h2⟩, h3⟩, h4⟩, h5, h6⟩
      refine ⟨fun q hq => ?_, fun q hq => (h5 q hq).1, h6⟩
      rcases List.mem_cons.1 hq with rfl | hq
      · exact ⟨h1, h2, h3, h4⟩
      · have := h5 q hq
        exact ⟨by omega, this.2⟩
    · rintro ⟨h1, h2, h3⟩
      obtain ⟨a1, a2, a3, a4⟩ := h1 p (by simp)
      exact ⟨⟨⟨⟨a1, a2⟩, a3⟩, a4⟩, fun q hq => ⟨h2 q hq, (h1 q (by simp [hq])).2⟩, h3⟩
theorem ck_gd {l : Fs} : ck 1 l = true ↔ Gd l := by
  rw [ck_iff]
  constructor
  · rintro ⟨h1, h2⟩
    exact ⟨fun p hp => by obtain ⟨a, b, c, d⟩ := h1 p hp; exact ⟨by omega, b, c, d⟩, h2⟩
  · rintro ⟨h1, h2⟩
    exact ⟨fun p hp => by obtain ⟨a, b, c, d⟩ := h1 p hp; exact ⟨by omega, b, c, d⟩, h2⟩
set_option maxRecDepth 100000 in
set_option maxHeartbeats 3200000 in
theorem check_any (W : World) (A : Option Addr) (n c : Nat) (l : Fs) (b : Bool) (hn : n = l.length) (hr : Row W W.heap.size A (fr l)) (hl : l.length ≤ 100000) (hb : b = true ↔ Gd l) :
    Calls Try.prog 13 #[.slice A n c] W fun e w' => e = .returned (.bool b) ∧ Below W.heap.size W w' := by
  subst hn
  have hb2 : ck 1 l = b := Bool.eq_iff_iff.2 (ck_gd.trans hb.symm)
  have HR := Lib.hid hr
  have HB := Lib.hid hb2
  clear hr hb hb2
  go_enter Try.func13, Try.ntmps13
  go_wp2_with fail
  go_loopw [3, 5, 8] (fun z _ i wr => ∃ (k : Nat) (y : Int), k ≤ l.length ∧ z = .int .i64 y ∧ i = .int .i64 k ∧ ck y (l.drop k) = b ∧ Below W.heap.size W wr) (fun _ _ i _ => l.length - (intOf i).toNat)
  case atStart => exact ⟨0, 1, by omega, rfl, rfl, HB.out, Below.refl _ _⟩
  case round =>
    obtain ⟨k, y, hk, rfl, rfl, hpre, hbw⟩ := hrel
    have HP := Lib.hid hpre
    clear hpre
    by_cases hlt : k < l.length
    · obtain ⟨ad, hA, hblk, hc1, hc2⟩ := row_at HR.out k hlt
      subst hA
      have cc1 := (hbw.cell (p := ad.add (k * 2)) (by rw [blk_add]; exact hblk)).trans hc1
      have cc2 := (hbw.cell (p := ⟨(ad.add (k * 2)).block, (ad.add (k * 2)).off + 1, none⟩) (by show (ad.add (k * 2)).block < _; rw [blk_add]; exact hblk)).trans hc2
      clear hc1 hc2
      have HD := Lib.hid (show (decide (y < (l[k]).1) && decide ((l[k]).1 ≤ 4294967295) && decide (0 ≤ (l[k]).2) && decide ((l[k]).2 ≤ 4294967295) && ck (l[k]).1 (l.drop (k + 1))) = b by
        have := HP.out
        rw [List.drop_eq_getElem_cons hlt] at this
        exact this)
      have hb2 := hbw.trans ((al wr (.cells #[.int .i64 (l[k]).1, .int .i64 (l[k]).2] 25)).mono hbw.size)
      clear HP
      generalize (l[k]).1 = p1 at *
      generalize (l[k]).2 = p2 at *
      have hHB := HB
      clear HB
      by_cases u1 : y < p1
      · by_cases u2 : p1 ≤ 4294967295
        · by_cases u3 : 0 ≤ p2
          · by_cases u4 : p2 ≤ 4294967295
            · have HQ := Lib.hid (show ck p1 (l.drop (k + 1)) = b by rw [← HD.out]; simp [u1, u2, u3, u4])
              have v1 : (p1 ≤ y) = False := by simp; omega
              have v2 : (4294967295 < p1) = False := by simp; omega
              have v3 : (p2 < 0) = False := by simp; omega
              have v4 : (4294967295 < p2) = False := by simp; omega
              clear u1 u2 u3 u4 HD
              go_wp2_with fail
              clear cc1 cc2 v1 v2 v3 v4
              go_roundw
              case rel => exact ⟨k + 1, p1, by omega, rfl, by go_num, HQ.out, hb2⟩
              case measure => simp [intOf]; omega
            · have HQ := Lib.hid (show b = false by rw [← HD.out]; simp [u4])
              have v1 : (p1 ≤ y) = False := by simp; omega
              have v2 : (4294967295 < p1) = False := by simp; omega
              have v3 : (p2 < 0) = False := by simp; omega
              have v4 : (4294967295 < p2) = True := by simp; omega
              clear u1 u2 u3 u4 HD
              go_wp2_with fail
              go_ret
              exact ⟨ret_bool HQ.out.symm, hb2⟩
          · have HQ := Lib.hid (show b = false by rw [← HD.out]; simp [u3])
            have v1 : (p1 ≤ y) = False := by simp; omega
            have v2 : (4294967295 < p1) = False := by simp; omega
            have v3 : (p2 < 0) = True := by simp; omega
            clear u1 u2 u3 HD
            go_wp2_with fail
            go_ret
            exact ⟨ret_bool HQ.out.symm, hb2⟩
        · have HQ := Lib.hid (show b = false by rw [← HD.out]; simp [u2])
          have v1 : (p1 ≤ y) = False := by simp; omega
          have v2 : (4294967295 < p1) = True := by simp; omega
          clear u1 u2 HD
          go_wp2_with fail
          go_ret
          exact ⟨ret_bool HQ.out.symm, hb2⟩
      · have HQ := Lib.hid (show b = false by rw [← HD.out]; simp [u1])
        have v1 : (p1 ≤ y) = True := by simp; omega
        clear u1 HD
        go_wp2_with fail
        go_ret
        exact ⟨ret_bool HQ.out.symm, hb2⟩
    · have HQ := Lib.hid (show b = true by
        have := HP.out
        rw [List.drop_eq_nil_iff.2 (by omega)] at this
        exact this.symm)
      go_wp2_with fail
      go_ret
      exact ⟨ret_bool HQ.out.symm, hbw⟩
set_option maxRecDepth 100000 in
set_option maxHeartbeats 3200000 in
theorem rsame_any (W : World) (A B : Option Addr) (n c m d : Nat) (l q : Fs) (b : Bool) (hn : n = l.length) (hm : m = q.length) (hr : Row W W.heap.size A (fr l)) (hq : Row W W.heap.size B (fr q)) (hl : l.length ≤ 100000) (hb : b = true ↔ l = q) :
    Calls Try.prog 17 #[.slice A n c, .slice B m d] W fun e w' => e = .returned (.bool b) ∧ Below W.heap.size W w' := by
  subst hn hm
  have HR := Lib.hid hr
  have HQ := Lib.hid hq
  have HB := Lib.hid hb
  clear hr hq hb
  by_cases hlen : l.length = q.length
  · have HLN := Lib.hid hlen
    have e1 : ((l.length : Int) != (q.length : Int)) = false := by simp [hlen]
    clear hlen
    go_enter Try.func17, Try.ntmps17
    go_wp2_with fail
    clear e1
    go_loopw [5] (fun i wr => ∃ k : Nat, k ≤ l.length ∧ i = .int .i64 k ∧ l.take k = q.take k ∧ Below W.heap.size W wr) (fun i _ => l.length - (intOf i).toNat)
    case atStart => exact ⟨0, by omega, rfl, rfl, Below.refl _ _⟩
    case round =>
      obtain ⟨k, hk, rfl, hpre, hbw⟩ := hrel
      have HP := Lib.hid hpre
      clear hpre
      by_cases hlt : k < l.length
      · have hlt2 : k < q.length := by have := HLN.out; omega
        have hqi : ((k : Int) < (q.length : Int)) = True := by simp; omega
        obtain ⟨ad, hA, hblk, hc1, hc2⟩ := row_at HR.out k hlt
        obtain ⟨bd, hB, hblk2, hd1, hd2⟩ := row_at HQ.out k hlt2
        subst hA hB
        have cc1 := (hbw.cell (p := ad.add (k * 2)) (by rw [blk_add]; exact hblk)).trans hc1
        have cc2 := (hbw.cell (p := ⟨(ad.add (k * 2)).block, (ad.add (k * 2)).off + 1, none⟩) (by show (ad.add (k * 2)).block < _; rw [blk_add]; exact hblk)).trans hc2
        have dd1 := (hbw.cell (p := bd.add (k * 2)) (by rw [blk_add]; exact hblk2)).trans hd1
        have dd2 := (hbw.cell (p := ⟨(bd.add (k * 2)).block, (bd.add (k * 2)).off + 1, none⟩) (by show (bd.add (k * 2)).block < _; rw [blk_add]; exact hblk2)).trans hd2
        clear hc1 hc2 hd1 hd2
        have HT := Lib.hid (show l.take (k + 1) = q.take (k + 1) ↔ l[k] = q[k] by
          rw [List.take_succ_eq_append_getElem hlt, List.take_succ_eq_append_getElem hlt2, HP.out, List.append_cancel_left_eq]
          simp only [List.cons.injEq, and_true])
        by_cases he : l[k] = q[k]
        · have HE := Lib.hid (HT.out.2 he)
          rw [he] at cc1 cc2
          have HX := Lib.hid he
          clear HT he
          generalize (q[k]).1 = p1 at *
          generalize (q[k]).2 = p2 at *
          go_wp2_with fail
          go_quiet (fail)
          go_wp2_with fail
          go_roundw
          case rel => exact ⟨k + 1, by omega, by go_num, HE.out, hbw.trans (Base.below_drewN _ _ _)⟩
          case measure => simp [intOf]; omega
        · have HE := Lib.hid (show b = false from Bool.eq_false_iff.2 fun h => he (by have := HB.out.1 h; subst this; rfl))
          have hd : ((l[k]).1 = (q[k]).1) = False ∨ (l[k]).1 = (q[k]).1 ∧ ((l[k]).2 = (q[k]).2) = False := by
            by_cases h1 : (l[k]).1 = (q[k]).1
            · refine .inr ⟨h1, ?_⟩
              simp only [eq_iff_iff, iff_false]
              exact fun h2 => he (Prod.ext h1 h2)
            · exact .inl (by simpa using h1)
          clear HT he
          generalize (q[k]).1 = p1 at *
          generalize (q[k]).2 = p2 at *
          generalize (l[k]).1 = r1 at *
          generalize (l[k]).2 = r2 at *
          rcases hd with hd | ⟨rfl, hd⟩
          · go_wp2_with fail
            go_quiet (fail)
            go_wp2_with fail
            go_ret
            exact ⟨ret_bool HE.out.symm, hbw.trans (Base.below_drewN _ _ _)⟩
          · go_wp2_with fail
            go_quiet (fail)
            go_wp2_with fail
            go_ret
            exact ⟨ret_bool HE.out.symm, hbw.trans (Base.below_drewN _ _ _)⟩
      · have HE := Lib.hid (show b = true from HB.out.2 (by
          have := HP.out
          rwa [List.take_of_length_le (by omega), List.take_of_length_le (by have := HLN.out; omega)] at this))
        go_wp2_with fail
        go_ret
        exact ⟨ret_bool HE.out.symm, hbw⟩
  · have HE := Lib.hid (show b = false from Bool.eq_false_iff.2 fun h => hlen (by rw [HB.out.1 h]))
    have e1 : ((l.length : Int) != (q.length : Int)) = true := by simp; omega
    clear hlen
    go_enter Try.func17, Try.ntmps17
    go_wp2_with fail
    go_ret
    exact ⟨ret_bool HE.out.symm, Below.refl _ _⟩
end Go.Proofs.Ytffbmabhlgfjkaa.FreeCheck
