/- The contracts of the document's Check and Same of free pages. -/
import Derived.Test.YtffbmabhlgfjkaaFreeMem
namespace Go.Proofs.Ytffbmabhlgfjkaa.FreeRefCheck
open Go.RowKit Base FreePlain FreeMem

theorem gd_iff {l : Fs} : Gd l ↔ ∀ i (h : i < l.length), Fit l[i] ∧ ∀ k (_ : k < i) (h' : k < l.length), (l[k]).1 < (l[i]).1 := by
  constructor
  · rintro ⟨h1, h2⟩ i hi
    exact ⟨h1 _ (List.getElem_mem hi), fun k hk hk' => List.pairwise_iff_getElem.1 h2 k i hk' hi hk⟩
  · intro h
    refine ⟨fun p hp => ?_, List.pairwise_iff_getElem.2 fun i j hi hj hij => (h j hj).2 i hij hi⟩
    obtain ⟨i, hi, rfl⟩ := List.mem_iff_getElem.1 hp
    exact (h i hi).1
set_option maxRecDepth 100000 in
set_option maxHeartbeats 3200000 in
theorem rcheck_any (W : World) (A : Option Addr) (n c : Nat) (l : Fs) (b : Bool) (hn : n = l.length) (hr : Row W W.heap.size A (fr l)) (hl : l.length ≤ 100000) (hb : b = true ↔ Gd l) :
    Calls Try.prog 11 #[.slice A n c] W fun e w' => e = .returned (.bool b) ∧ Below W.heap.size W w' := by
  subst hn
  have HR := Lib.hid hr
  have HB := Lib.hid hb
  clear hr hb
  go_enter Try.func11, Try.ntmps11
  go_wp2_with fail
  go_loopw [3] (fun i wr => ∃ k : Nat, k ≤ l.length ∧ i = .int .i64 k ∧ (∀ j (_ : j < k) (h : j < l.length), Fit l[j] ∧ ∀ m (_ : m < j) (h' : m < l.length), (l[m]).1 < (l[j]).1) ∧ Below W.heap.size W wr) (fun i _ => l.length - (intOf i).toNat)
  case atStart => exact ⟨0, by omega, rfl, by intro j h q; omega, Below.refl _ _⟩
  case round =>
    obtain ⟨k, hk, rfl, hpre, hbw⟩ := hrel
    have HP := Lib.hid hpre
    clear hpre
    by_cases hlt : k < l.length
    · obtain ⟨ad, hA, hblk, hc1, hc2⟩ := row_at HR.out k hlt
      subst hA
      have HC := Lib.hid (fun (w' : World) (q : Below W.heap.size W w') => show w'.cell? (ad.add (k * 2)) = some (.int .i64 (l[k]).1) ∧ w'.cell? ⟨(ad.add (k * 2)).block, (ad.add (k * 2)).off + 1, none⟩ = some (.int .i64 (l[k]).2) from ⟨(q.cell (p := ad.add (k * 2)) (by rw [blk_add]; exact hblk)).trans hc1, (q.cell (p := ⟨(ad.add (k * 2)).block, (ad.add (k * 2)).off + 1, none⟩) (by show (ad.add (k * 2)).block < _; rw [blk_add]; exact hblk)).trans hc2⟩)
      clear hc1 hc2
      by_cases hf : Fit l[k]
      · have HF := Lib.hid (show ∀ p1, (l[k]).1 = p1 → (∀ j (_ : j < k) (h : j < l.length), (l[j]).1 < p1) → ∀ j (_ : j < k + 1) (h : j < l.length), Fit l[j] ∧ ∀ m (_ : m < j) (h' : m < l.length), (l[m]).1 < (l[j]).1 from fun p1 e hs j hj h => by
          rcases Nat.lt_or_ge j k with q | q
          · exact HP.out j q h
          · obtain rfl : j = k := by omega
            exact ⟨hf, fun m hm h' => by rw [e]; exact hs m hm h'⟩)
        have HNB := Lib.hid (show ∀ p1, (l[k]).1 = p1 → ∀ m (hm : m < k), p1 ≤ (l[m]'(by omega)).1 → b = false from fun p1 e m hm hle => Bool.eq_false_iff.2 fun hbt => by
          have := (gd_iff.1 (HB.out.1 hbt) k hlt).2 m hm (by omega)
          omega)
        obtain ⟨t1, t2, t3, t4⟩ := hf
        have u1 : ((l[k]).1 < 2) = False := by simp; omega
        have u2 : (4294967295 < (l[k]).1) = False := by simp; omega
        have u3 : ((l[k]).2 < 0) = False := by simp; omega
        have u4 : (4294967295 < (l[k]).2) = False := by simp; omega
        clear t1 t2 t3 t4
        obtain ⟨cc1, cc2⟩ := HC.out wr hbw
        generalize he : (l[k]).1 = p1 at *
        have HE := Lib.hid he
        clear he
        generalize (l[k]).2 = p2 at *
        go_wp2_with fail
        clear cc1 cc2 u1 u2 u3 u4
        generalize wr = wa at *
        go_loopw [4] (fun i wz => ∃ m : Nat, m ≤ k ∧ i = .int .i64 m ∧ (∀ j (_ : j < m) (h : j < l.length), (l[j]).1 < p1) ∧ Below W.heap.size W wz) (fun i _ => k - (intOf i).toNat)
        case atStart => exact ⟨0, by omega, rfl, by intro j h q; omega, hbw⟩
        case round =>
          obtain ⟨m, hm, rfl, hpre, hbz⟩ := hrel
          have HQ := Lib.hid hpre
          clear hpre
          by_cases hmk : m < k
          · have hml : m < l.length := by omega
            obtain ⟨ad', hA', hblk', hd1, _⟩ := row_at HR.out m hml
            injection hA' with hA'
            subst hA'
            have hd1' := (hbz.cell (p := ad.add (m * 2)) (by rw [blk_add]; exact hblk)).trans hd1
            obtain ⟨cc1, _⟩ := HC.out wr hbz
            clear hd1 hblk'
            have hmi : (m : Int) < (l.length : Int) := by omega
            by_cases hle : p1 ≤ (l[m]).1
            · have HN := Lib.hid (HNB.out p1 rfl m hmk hle)
              generalize (l[m]).1 = q1 at *
              have hg : (q1 ≥ p1) = True := by simp; omega
              go_wp2_with fail
              go_quiet (fail)
              go_wp2_with fail
              go_ret
              exact ⟨ret_bool HN.out.symm, hbz.trans (Base.below_drewN _ _ _)⟩
            · have HN := Lib.hid (show ∀ j (_ : j < m + 1) (h : j < l.length), (l[j]).1 < p1 from fun j hj h => by
                rcases Nat.lt_or_ge j m with q | q
                · exact HQ.out j q h
                · obtain rfl : j = m := by omega
                  omega)
              generalize (l[m]).1 = q1 at *
              have hg : (q1 ≥ p1) = False := by simp; omega
              go_wp2_with fail
              go_quiet (fail)
              go_wp2_with fail
              go_roundw
              case rel => exact ⟨m + 1, by omega, by go_num, HN.out, hbz.trans (Base.below_drewN _ _ _)⟩
              case measure => simp [intOf]; omega
          · obtain rfl : m = k := by omega
            have HN := Lib.hid (HF.out p1 rfl HQ.out)
            go_wp2_with fail
            go_roundw
            case rel => exact ⟨m + 1, by omega, by go_num, HN.out, hbz⟩
            case measure => simp [intOf]; omega
      · have HN := Lib.hid (show b = false from Bool.eq_false_iff.2 fun hbt => hf (gd_iff.1 (HB.out.1 hbt) k hlt).1)
        obtain ⟨cc1, cc2⟩ := HC.out wr hbw
        unfold Fit at hf
        generalize (l[k]).1 = p1 at *
        generalize (l[k]).2 = p2 at *
        by_cases u1 : p1 < 2
        · have v1 : (p1 < 2) = True := by simpa using u1
          clear u1 hf
          go_wp2_with fail
          go_ret
          exact ⟨ret_bool HN.out.symm, hbw⟩
        · by_cases u2 : 4294967295 < p1
          · have v1 : (p1 < 2) = False := by simpa using u1
            have v2 : (4294967295 < p1) = True := by simpa using u2
            clear u1 u2 hf
            go_wp2_with fail
            go_ret
            exact ⟨ret_bool HN.out.symm, hbw⟩
          · by_cases u3 : p2 < 0
            · have v1 : (p1 < 2) = False := by simpa using u1
              have v2 : (4294967295 < p1) = False := by simpa using u2
              have v3 : (p2 < 0) = True := by simpa using u3
              clear u1 u2 u3 hf
              go_wp2_with fail
              go_ret
              exact ⟨ret_bool HN.out.symm, hbw⟩
            · have v1 : (p1 < 2) = False := by simpa using u1
              have v2 : (4294967295 < p1) = False := by simpa using u2
              have v3 : (p2 < 0) = False := by simpa using u3
              have v4 : (4294967295 < p2) = True := by simp; omega
              clear u1 u2 u3 hf
              go_wp2_with fail
              go_ret
              exact ⟨ret_bool HN.out.symm, hbw⟩
    · have HN := Lib.hid (show b = true from HB.out.2 (gd_iff.2 fun i hi => HP.out i (by omega) hi))
      go_wp2_with fail
      go_ret
      exact ⟨ret_bool HN.out.symm, hbw⟩
end Go.Proofs.Ytffbmabhlgfjkaa.FreeRefCheck
