/- The contract of the document's Check. -/
import Derived.Test.YtpcpfcllgadghaaNodeCheck
namespace Go.Proofs.Ytpcpfcllgadghaa.NodeRefCheck
open Go.RowKit Base NodePlain NodeRead NodeSlice NodeCheck

theorem row_in {w w' : World} {B : Nat} {A : Option Addr} {vs : List Value} (h : Row w B A vs) (hb : Below w.heap.size w w') (hB : B ≤ w.heap.size) : Row w' B A vs := h.keep fun _ hp => hb.cell (Nat.lt_of_lt_of_le hp hB)
set_option maxRecDepth 100000 in
set_option maxHeartbeats 6400000 in
theorem rcheck_any (w : World) (n : Nd) (h : Hd) (hl : Lay w n h) (hs : Small n) (er : Int) (he : Chk n er) :
    Calls Try.prog 16 #[nv n h] w fun e w' => e = .returned (.int .i64 er) ∧ Below w.heap.size w w' := by
  have b1 := box_below w n h
  have bx := bx_new w n h
  have hl1 := hl.below b1
  obtain ⟨cb, hcb⟩ := pick_b (if n.leaf then n.vals.length = n.keys.length ∧ n.kids = [] else n.kids.length = n.keys.length + 1 ∧ n.vals = [])
  obtain ⟨kb, hkb⟩ := pick_b (∀ k ∈ n.kids, 1 ≤ k ∧ k ≤ 4294967295)
  obtain ⟨ub, hub⟩ := pick_b (Up n.keys)
  have HF := Lib.hid (show Fine n ↔ cb = true ∧ kb = true ∧ ub = true by rw [hcb, hkb, hub]; rfl)
  have HE := Lib.hid he
  have HCB := Lib.hid hcb
  have HKB := Lib.hid hkb
  have HUB := Lib.hid (hub.trans up_iff)
  obtain ⟨hsk, hsv, hsd, hzk, hzv⟩ := hs
  have HZK := Lib.hid hzk
  clear he hl hcb hkb hub hzk hzv
  obtain ⟨leaf, ks, vs, ds⟩ := n
  simp only [nv, box] at *
  obtain ⟨w1, hw1⟩ : ∃ v, v = w.alloc (.cells #[.bool leaf, .slice h.K ks.length h.kc, .slice h.V vs.length h.vc, .slice h.D ds.length h.dc] 25) := ⟨_, rfl⟩
  rw [← hw1] at b1 bx hl1
  have HW1 := Lib.hid hw1
  clear hw1
  obtain ⟨c0, c1, c2, c3, hlt⟩ := bx
  have BX := Lib.hid (show Bx w1 w.heap.size ⟨leaf, ks, vs, ds⟩ h from ⟨c0, c1, c2, c3, hlt⟩)
  have B1 := Lib.hid b1
  have HL := Lib.hid hl1
  dsimp only at c0 c1 c2 c3
  have hrk : Row w1 w1.heap.size h.K (strs ks) := hl1.k
  have hrv : Row w1 w1.heap.size h.V (strs vs) := hl1.v
  clear hl1 b1
  go_enter Try.func16, Try.ntmps16
  go_wp2_with fail
  rw [← HW1.out]
  go_loop [3] (fun i => ∃ k : Nat, k ≤ ks.length ∧ i = .int .i64 k ∧ ∀ (j : Nat) (h : j < ks.length), j < k → ks[j].size ≤ 100) (fun i => ks.length - (intOf i).toNat)
  case atStart => exact ⟨0, by omega, rfl, by intro j h q; omega⟩
  case round =>
    obtain ⟨k, hk, rfl, hpre⟩ := hrel
    have HP := Lib.hid hpre
    clear hpre
    by_cases hlt1 : k < ks.length
    · obtain ⟨ad, hKe, hb, hcell⟩ := strs_get hrk k hlt1
      rw [hKe] at c1
      clear hKe
      by_cases hq : 100 < ks[k].size
      · have HLL := Lib.hid (show er = 51 by rcases HE.out with ⟨h1, h2⟩ | ⟨h1, h2⟩ | ⟨h1, h2⟩ <;> first | exact h2 | exact absurd (.inl ⟨ks[k], List.getElem_mem hlt1, hq⟩) h1)
        have hq' : (100 : Int) < (ks[k].size : Int) := by omega
        generalize ks[k] = q at *
        go_wp2_with fail
        go_ret
        exact ⟨by rw [HLL.out]; rfl, B1.out⟩
      · have HN := Lib.hid (show ∀ (j : Nat) (h : j < ks.length), j < k + 1 → ks[j].size ≤ 100 from fun j h q => by
          by_cases e : j = k
          · subst e; omega
          · exact HP.out j h (by omega))
        generalize ks[k] = q at *
        go_wp2_with fail
        go_round
        case rel => exact ⟨k + 1, by omega, by go_num, HN.out⟩
        case measure => simp [intOf]; omega
    · have HNK := Lib.hid (show ¬ Long ks from fun ⟨t, ht, hs⟩ => by
        obtain ⟨j, hj, rfl⟩ := List.mem_iff_getElem.1 ht
        have := HP.out j hj (by omega)
        omega)
      clear HP
      go_wp2_with fail
      go_loop [4] (fun i => ∃ k : Nat, k ≤ vs.length ∧ i = .int .i64 k ∧ ∀ (j : Nat) (h : j < vs.length), j < k → vs[j].size ≤ 100) (fun i => vs.length - (intOf i).toNat)
      case atStart => exact ⟨0, by omega, rfl, by intro j h q; omega⟩
      case round =>
        obtain ⟨m, hm, rfl, hpre⟩ := hrel
        have HP := Lib.hid hpre
        clear hpre
        by_cases hlt2 : m < vs.length
        · obtain ⟨ad, hVe, hb, hcell⟩ := strs_get hrv m hlt2
          rw [hVe] at c2
          clear hVe
          by_cases hq : 100 < vs[m].size
          · have HLL := Lib.hid (show er = 51 by rcases HE.out with ⟨h1, h2⟩ | ⟨h1, h2⟩ | ⟨h1, h2⟩ <;> first | exact h2 | exact absurd (.inr ⟨vs[m], List.getElem_mem hlt2, hq⟩) h1)
            have hq' : (100 : Int) < (vs[m].size : Int) := by omega
            generalize vs[m] = q at *
            go_wp2_with fail
            go_ret
            exact ⟨by rw [HLL.out]; rfl, B1.out⟩
          · have HN := Lib.hid (show ∀ (j : Nat) (h : j < vs.length), j < m + 1 → vs[j].size ≤ 100 from fun j h q => by
              by_cases e : j = m
              · subst e; omega
              · exact HP.out j h (by omega))
            generalize vs[m] = q at *
            go_wp2_with fail
            go_round
            case rel => exact ⟨m + 1, by omega, by go_num, HN.out⟩
            case measure => simp [intOf]; omega
        · have HNL := Lib.hid (show ¬ (Long ks ∨ Long vs) from fun q => q.elim HNK.out fun ⟨t, ht, hs⟩ => by
            obtain ⟨j, hj, rfl⟩ := List.mem_iff_getElem.1 ht
            have := HP.out j hj (by omega)
            omega)
          have HE5 := Lib.hid (show ¬ Fine ⟨leaf, ks, vs, ds⟩ → er = 50 from fun q => by rcases HE.out with ⟨h1, h2⟩ | ⟨h1, h2, h3⟩ | ⟨h1, h2, h3⟩ <;> first | exact h3 | exact absurd h1 HNL.out | exact absurd h2 q)
          have HE0 := Lib.hid (show Fine ⟨leaf, ks, vs, ds⟩ → er = 0 from fun q => by rcases HE.out with ⟨h1, h2⟩ | ⟨h1, h2, h3⟩ | ⟨h1, h2, h3⟩ <;> first | exact h3 | exact absurd h1 HNL.out | exact absurd q h2)
          clear HP HNK HE HNL
          go_wp2_with fail
          clear hlt1 hlt2 c0 c1 c2 c3
          go_loopw [5, 6] (fun o i wr => ∃ (k : Nat) (ob : Bool), 1 ≤ k ∧ (k ≤ ks.length ∨ k = 1) ∧ i = .int .i64 k ∧ o = .bool ob ∧ (ob = true ↔ ∀ j (h : j + 1 < ks.length), j + 1 < k → less ks[j] ks[j + 1] = true) ∧ Below w1.heap.size w1 wr) (fun _ i _ => ks.length - (intOf i).toNat)
          case atStart => exact ⟨1, true, by omega, .inr rfl, rfl, rfl, ⟨fun _ j h q => (by omega), fun _ => rfl⟩, Below.refl _ _⟩
          case round =>
            obtain ⟨k, ob, hk1, hk2, rfl, rfl, hpre, hb2⟩ := hrel
            have HP := Lib.hid hpre
            clear hpre
            obtain ⟨c0, c1, c2, c3, hlt'⟩ := BX.out.below hb2
            dsimp only at c0 c1 c2 c3
            by_cases hlt3 : k < ks.length
            · cases ob
              · have HN := Lib.hid (show ¬ ∀ j (h : j + 1 < ks.length), j + 1 < k + 1 → less ks[j] ks[j + 1] = true from fun q => by
                  have := HP.out.2 fun j h g => q j h (by omega)
                  cases this)
                go_wp2_with fail
                go_quiet (fail)
                go_wp2_with fail
                go_roundw
                case rel => exact ⟨k + 1, false, by omega, by omega, by go_num, rfl, ⟨fun q => (by cases q), fun q => absurd q HN.out⟩, hb2.trans (Base.below_drewN _ _ _)⟩
                case measure => simp [intOf]; omega
              · obtain ⟨p, rfl⟩ : ∃ p, k = p + 1 := ⟨k - 1, by omega⟩
                have hrk2 := hrk.belowSize hb2
                obtain ⟨ad, hKe, hb1, hc1⟩ := strs_get hrk2 p (by omega)
                obtain ⟨ad', e, hb3, hc2⟩ := strs_get hrk2 (p + 1) hlt3
                rw [hKe] at e c1
                clear hKe
                injection e with e
                subst e
                have hw1 : (((p + 1 : Nat) : Int) - 1) = (p : Int) := by omega
                have hw2 : IntKind.i64.wrap (p : Int) = (p : Int) := IntWalk.i64_in _ (by omega)
                have i1 : (p : Int) + 1 < (ks.length : Int) := by omega
                have i2 : (p : Int) < (ks.length : Int) := by omega
                have i3 : (0 : Int) ≤ (p : Int) + 1 := by omega
                have i4 : ((p : Int) + 1).toNat = p + 1 := by omega
                have hc3 : wr.cell? ⟨ad.block, ad.off + (p + 1), none⟩ = some (.string ks[p + 1]) := by rw [← hc2]; simp [Addr.add]
                have hz1 := HZK.out _ (List.getElem_mem (show p < ks.length by omega))
                have hz2 := HZK.out _ (List.getElem_mem hlt3)
                have HN := Lib.hid (show less ks[p] ks[p + 1] = true ↔ ∀ j (h : j + 1 < ks.length), j + 1 < p + 1 + 1 → less ks[j] ks[j + 1] = true from ⟨fun h j hj q => by
                  by_cases e : j = p
                  · subst e; exact h
                  · exact HP.out.1 rfl j hj (by omega), fun h => h p hlt3 (by omega)⟩)
                have HC := Lib.hid (fun w' => Below_q ks[p] ks[p + 1] w' (by simp only [maxLen]; omega) (by simp only [maxLen]; omega))
                have hd : Op.bytesLess ks[p].data.toList ks[p + 1].data.toList = less ks[p] ks[p + 1] := rfl
                rw [hd] at HC
                clear hd hz1 hz2 hc2
                generalize less ks[p] ks[p + 1] = bb at *
                generalize ks[p] = s at *
                generalize ks[p + 1] = t at *
                go_wp2_with fail
                go_quiet ((go_at_call 33; refine quiet_any (HC.out _) ?_; intro nn; simp only [World.drewN_drewN]; exact ⟨_, rfl⟩))
                go_wp2_with fail
                go_roundw
                case rel => exact ⟨p + 1 + 1, bb, by omega, by omega, by go_num, rfl, HN.out, hb2.trans (Base.below_drewN _ _ _)⟩
                case measure => simp [intOf]; omega
            · obtain rfl : ob = ub := Bool.eq_iff_iff.2 (HP.out.trans (Iff.trans ⟨fun q j h => q j h (by omega), fun q j h _ => q j h⟩ HUB.out.symm))
              clear HP
              have HBW := Lib.hid hb2
              have HBXW := Lib.hid (BX.out.below hb2)
              have HRD := Lib.hid (show Row wr wr.heap.size h.D (ints ds) from (HL.out.below hb2).d)
              clear hk1 hk2
              cases leaf
              · cases ob
                · have HG := Lib.hid (show False ↔ (false && cb) = true by rw [Bool.false_and]; exact ⟨False.elim, fun q => (by cases q)⟩)
                  go_wp2_with fail
                  go_loop [5, 7] (fun o i => ∃ (k : Nat) (o' : Bool), k ≤ ds.length ∧ i = .int .i64 k ∧ o = .bool o' ∧ (o' = true ↔ (false && cb) = true ∧ ∀ (j : Nat) (h : j < ds.length), j < k → 1 ≤ ds[j] ∧ ds[j] ≤ 4294967295)) (fun _ i => ds.length - (intOf i).toNat)
                  case atStart => exact ⟨0, _, by omega, rfl, rfl, ⟨fun q => (by simp at q), fun q => (HG.out.2 q.1).elim⟩⟩
                  case round =>
                    obtain ⟨k, o', hk, rfl, rfl, hpre⟩ := hrel
                    have HP := Lib.hid hpre
                    clear hpre
                    by_cases hlt4 : k < ds.length
                    · cases o'
                      · have HN := Lib.hid (show ¬ ((false && cb) = true ∧ ∀ (j : Nat) (h : j < ds.length), j < k + 1 → 1 ≤ ds[j] ∧ ds[j] ≤ 4294967295) from fun q => by
                          have := HP.out.2 ⟨q.1, fun j h g => q.2 j h (by omega)⟩
                          cases this)
                        go_wp2_with fail
                        go_round
                        case rel => exact ⟨k + 1, false, by omega, by go_num, rfl, ⟨fun q => (by cases q), fun q => absurd q HN.out⟩⟩
                        case measure => simp [intOf]; omega
                      · obtain ⟨ad, hDe, hb, hcell⟩ := ints_get HRD.out k hlt4
                        rw [hDe] at c3
                        clear hDe
                        by_cases hq1 : 1 ≤ ds[k]
                        · have HN := Lib.hid (show decide (ds[k] ≤ 4294967295) = true ↔ (false && cb) = true ∧ ∀ (j : Nat) (h : j < ds.length), j < k + 1 → 1 ≤ ds[j] ∧ ds[j] ≤ 4294967295 by
                            rw [decide_eq_true_iff]
                            exact ⟨fun q => ⟨(HP.out.1 rfl).1, fun j h g => by
                              by_cases e : j = k
                              · subst e; exact ⟨hq1, q⟩
                              · exact (HP.out.1 rfl).2 j h (by omega)⟩, fun q => (q.2 k hlt4 (by omega)).2⟩)
                          have hd1 : decide ((1 : Int) ≤ ds[k]) = true := decide_eq_true hq1
                          clear hq1
                          generalize ds[k] = q at *
                          go_wp2_with fail
                          go_round
                          case rel => exact ⟨k + 1, _, by omega, by go_num, rfl, HN.out⟩
                          case measure => simp [intOf]; omega
                        · have HN := Lib.hid (show ¬ ((false && cb) = true ∧ ∀ (j : Nat) (h : j < ds.length), j < k + 1 → 1 ≤ ds[j] ∧ ds[j] ≤ 4294967295) from fun q => hq1 (q.2 k hlt4 (by omega)).1)
                          have hd1 : decide ((1 : Int) ≤ ds[k]) = false := decide_eq_false hq1
                          clear hq1
                          generalize ds[k] = q at *
                          go_wp2_with fail
                          go_round
                          case rel => exact ⟨k + 1, false, by omega, by go_num, rfl, ⟨fun q => (by cases q), fun q => absurd q HN.out⟩⟩
                          case measure => simp [intOf]; omega
                    · have HK := Lib.hid (show o' = true ↔ Fine ⟨false, ks, vs, ds⟩ by
                        rw [HP.out, HF.out]
                        refine ⟨fun q => by have := q.1; simp at this, fun q => by have := q.2.2; cases this⟩)
                      cases o'
                      · have HR := Lib.hid (HE5.out fun q => by have := HK.out.2 q; cases this)
                        go_wp2_with fail
                        go_ret
                        exact ⟨by rw [HR.out]; rfl, Below.step B1.out HBW.out⟩
                      · have HR := Lib.hid (HE0.out (HK.out.1 rfl))
                        go_wp2_with fail
                        go_ret
                        exact ⟨by rw [HR.out]; rfl, Below.step B1.out HBW.out⟩
                · by_cases h1 : ds.length = ks.length + 1
                  · have e1 : ((ds.length : Int) == (ks.length : Int) + 1) = true := by simp; omega
                    have HG := Lib.hid (show vs.length = 0 ↔ (true && cb) = true by rw [Bool.true_and, HCB.out]; simp [h1])
                    go_wp2_with fail
                    go_loop [5, 7] (fun o i => ∃ (k : Nat) (o' : Bool), k ≤ ds.length ∧ i = .int .i64 k ∧ o = .bool o' ∧ (o' = true ↔ (true && cb) = true ∧ ∀ (j : Nat) (h : j < ds.length), j < k → 1 ≤ ds[j] ∧ ds[j] ≤ 4294967295)) (fun _ i => ds.length - (intOf i).toNat)
                    case atStart => exact ⟨0, _, by omega, rfl, rfl, ⟨fun q => ⟨HG.out.1 (by simpa using q), fun j h q => (by omega)⟩, fun q => (by simpa using HG.out.2 q.1)⟩⟩
                    case round =>
                      obtain ⟨k, o', hk, rfl, rfl, hpre⟩ := hrel
                      have HP := Lib.hid hpre
                      clear hpre
                      by_cases hlt4 : k < ds.length
                      · cases o'
                        · have HN := Lib.hid (show ¬ ((true && cb) = true ∧ ∀ (j : Nat) (h : j < ds.length), j < k + 1 → 1 ≤ ds[j] ∧ ds[j] ≤ 4294967295) from fun q => by
                            have := HP.out.2 ⟨q.1, fun j h g => q.2 j h (by omega)⟩
                            cases this)
                          go_wp2_with fail
                          go_round
                          case rel => exact ⟨k + 1, false, by omega, by go_num, rfl, ⟨fun q => (by cases q), fun q => absurd q HN.out⟩⟩
                          case measure => simp [intOf]; omega
                        · obtain ⟨ad, hDe, hb, hcell⟩ := ints_get HRD.out k hlt4
                          rw [hDe] at c3
                          clear hDe
                          by_cases hq1 : 1 ≤ ds[k]
                          · have HN := Lib.hid (show decide (ds[k] ≤ 4294967295) = true ↔ (true && cb) = true ∧ ∀ (j : Nat) (h : j < ds.length), j < k + 1 → 1 ≤ ds[j] ∧ ds[j] ≤ 4294967295 by
                              rw [decide_eq_true_iff]
                              exact ⟨fun q => ⟨(HP.out.1 rfl).1, fun j h g => by
                                by_cases e : j = k
                                · subst e; exact ⟨hq1, q⟩
                                · exact (HP.out.1 rfl).2 j h (by omega)⟩, fun q => (q.2 k hlt4 (by omega)).2⟩)
                            have hd1 : decide ((1 : Int) ≤ ds[k]) = true := decide_eq_true hq1
                            clear hq1
                            generalize ds[k] = q at *
                            go_wp2_with fail
                            go_round
                            case rel => exact ⟨k + 1, _, by omega, by go_num, rfl, HN.out⟩
                            case measure => simp [intOf]; omega
                          · have HN := Lib.hid (show ¬ ((true && cb) = true ∧ ∀ (j : Nat) (h : j < ds.length), j < k + 1 → 1 ≤ ds[j] ∧ ds[j] ≤ 4294967295) from fun q => hq1 (q.2 k hlt4 (by omega)).1)
                            have hd1 : decide ((1 : Int) ≤ ds[k]) = false := decide_eq_false hq1
                            clear hq1
                            generalize ds[k] = q at *
                            go_wp2_with fail
                            go_round
                            case rel => exact ⟨k + 1, false, by omega, by go_num, rfl, ⟨fun q => (by cases q), fun q => absurd q HN.out⟩⟩
                            case measure => simp [intOf]; omega
                      · have HK := Lib.hid (show o' = true ↔ Fine ⟨false, ks, vs, ds⟩ by
                          rw [HP.out, HF.out]
                          refine ⟨fun q => ⟨by have := q.1; simp at this; exact this, HKB.out.2 fun t ht => by obtain ⟨j, hj, rfl⟩ := List.mem_iff_getElem.1 ht; exact q.2 j hj (by omega), by have := q.1; simp at this; first | rfl | trivial⟩, fun q => ⟨by simp [q.1], fun j h _ => HKB.out.1 q.2.1 _ (List.getElem_mem h)⟩⟩)
                        cases o'
                        · have HR := Lib.hid (HE5.out fun q => by have := HK.out.2 q; cases this)
                          go_wp2_with fail
                          go_ret
                          exact ⟨by rw [HR.out]; rfl, Below.step B1.out HBW.out⟩
                        · have HR := Lib.hid (HE0.out (HK.out.1 rfl))
                          go_wp2_with fail
                          go_ret
                          exact ⟨by rw [HR.out]; rfl, Below.step B1.out HBW.out⟩
                  · have e1 : ((ds.length : Int) == (ks.length : Int) + 1) = false := by simp; omega
                    have HG := Lib.hid (show False ↔ (true && cb) = true by rw [Bool.true_and, HCB.out]; simp [h1])
                    go_wp2_with fail
                    go_loop [5, 7] (fun o i => ∃ (k : Nat) (o' : Bool), k ≤ ds.length ∧ i = .int .i64 k ∧ o = .bool o' ∧ (o' = true ↔ (true && cb) = true ∧ ∀ (j : Nat) (h : j < ds.length), j < k → 1 ≤ ds[j] ∧ ds[j] ≤ 4294967295)) (fun _ i => ds.length - (intOf i).toNat)
                    case atStart => exact ⟨0, _, by omega, rfl, rfl, ⟨fun q => (by simp at q), fun q => (HG.out.2 q.1).elim⟩⟩
                    case round =>
                      obtain ⟨k, o', hk, rfl, rfl, hpre⟩ := hrel
                      have HP := Lib.hid hpre
                      clear hpre
                      by_cases hlt4 : k < ds.length
                      · cases o'
                        · have HN := Lib.hid (show ¬ ((true && cb) = true ∧ ∀ (j : Nat) (h : j < ds.length), j < k + 1 → 1 ≤ ds[j] ∧ ds[j] ≤ 4294967295) from fun q => by
                            have := HP.out.2 ⟨q.1, fun j h g => q.2 j h (by omega)⟩
                            cases this)
                          go_wp2_with fail
                          go_round
                          case rel => exact ⟨k + 1, false, by omega, by go_num, rfl, ⟨fun q => (by cases q), fun q => absurd q HN.out⟩⟩
                          case measure => simp [intOf]; omega
                        · obtain ⟨ad, hDe, hb, hcell⟩ := ints_get HRD.out k hlt4
                          rw [hDe] at c3
                          clear hDe
                          by_cases hq1 : 1 ≤ ds[k]
                          · have HN := Lib.hid (show decide (ds[k] ≤ 4294967295) = true ↔ (true && cb) = true ∧ ∀ (j : Nat) (h : j < ds.length), j < k + 1 → 1 ≤ ds[j] ∧ ds[j] ≤ 4294967295 by
                              rw [decide_eq_true_iff]
                              exact ⟨fun q => ⟨(HP.out.1 rfl).1, fun j h g => by
                                by_cases e : j = k
                                · subst e; exact ⟨hq1, q⟩
                                · exact (HP.out.1 rfl).2 j h (by omega)⟩, fun q => (q.2 k hlt4 (by omega)).2⟩)
                            have hd1 : decide ((1 : Int) ≤ ds[k]) = true := decide_eq_true hq1
                            clear hq1
                            generalize ds[k] = q at *
                            go_wp2_with fail
                            go_round
                            case rel => exact ⟨k + 1, _, by omega, by go_num, rfl, HN.out⟩
                            case measure => simp [intOf]; omega
                          · have HN := Lib.hid (show ¬ ((true && cb) = true ∧ ∀ (j : Nat) (h : j < ds.length), j < k + 1 → 1 ≤ ds[j] ∧ ds[j] ≤ 4294967295) from fun q => hq1 (q.2 k hlt4 (by omega)).1)
                            have hd1 : decide ((1 : Int) ≤ ds[k]) = false := decide_eq_false hq1
                            clear hq1
                            generalize ds[k] = q at *
                            go_wp2_with fail
                            go_round
                            case rel => exact ⟨k + 1, false, by omega, by go_num, rfl, ⟨fun q => (by cases q), fun q => absurd q HN.out⟩⟩
                            case measure => simp [intOf]; omega
                      · have HK := Lib.hid (show o' = true ↔ Fine ⟨false, ks, vs, ds⟩ by
                          rw [HP.out, HF.out]
                          refine ⟨fun q => ⟨by have := q.1; simp at this; exact this, HKB.out.2 fun t ht => by obtain ⟨j, hj, rfl⟩ := List.mem_iff_getElem.1 ht; exact q.2 j hj (by omega), by have := q.1; simp at this; first | rfl | trivial⟩, fun q => ⟨by simp [q.1], fun j h _ => HKB.out.1 q.2.1 _ (List.getElem_mem h)⟩⟩)
                        cases o'
                        · have HR := Lib.hid (HE5.out fun q => by have := HK.out.2 q; cases this)
                          go_wp2_with fail
                          go_ret
                          exact ⟨by rw [HR.out]; rfl, Below.step B1.out HBW.out⟩
                        · have HR := Lib.hid (HE0.out (HK.out.1 rfl))
                          go_wp2_with fail
                          go_ret
                          exact ⟨by rw [HR.out]; rfl, Below.step B1.out HBW.out⟩
              · cases ob
                · have HG := Lib.hid (show False ↔ (false && cb) = true by rw [Bool.false_and]; exact ⟨False.elim, fun q => (by cases q)⟩)
                  go_wp2_with fail
                  go_loop [5, 7] (fun o i => ∃ (k : Nat) (o' : Bool), k ≤ ds.length ∧ i = .int .i64 k ∧ o = .bool o' ∧ (o' = true ↔ (false && cb) = true ∧ ∀ (j : Nat) (h : j < ds.length), j < k → 1 ≤ ds[j] ∧ ds[j] ≤ 4294967295)) (fun _ i => ds.length - (intOf i).toNat)
                  case atStart => exact ⟨0, _, by omega, rfl, rfl, ⟨fun q => (by simp at q), fun q => (HG.out.2 q.1).elim⟩⟩
                  case round =>
                    obtain ⟨k, o', hk, rfl, rfl, hpre⟩ := hrel
                    have HP := Lib.hid hpre
                    clear hpre
                    by_cases hlt4 : k < ds.length
                    · cases o'
                      · have HN := Lib.hid (show ¬ ((false && cb) = true ∧ ∀ (j : Nat) (h : j < ds.length), j < k + 1 → 1 ≤ ds[j] ∧ ds[j] ≤ 4294967295) from fun q => by
                          have := HP.out.2 ⟨q.1, fun j h g => q.2 j h (by omega)⟩
                          cases this)
                        go_wp2_with fail
                        go_round
                        case rel => exact ⟨k + 1, false, by omega, by go_num, rfl, ⟨fun q => (by cases q), fun q => absurd q HN.out⟩⟩
                        case measure => simp [intOf]; omega
                      · obtain ⟨ad, hDe, hb, hcell⟩ := ints_get HRD.out k hlt4
                        rw [hDe] at c3
                        clear hDe
                        by_cases hq1 : 1 ≤ ds[k]
                        · have HN := Lib.hid (show decide (ds[k] ≤ 4294967295) = true ↔ (false && cb) = true ∧ ∀ (j : Nat) (h : j < ds.length), j < k + 1 → 1 ≤ ds[j] ∧ ds[j] ≤ 4294967295 by
                            rw [decide_eq_true_iff]
                            exact ⟨fun q => ⟨(HP.out.1 rfl).1, fun j h g => by
                              by_cases e : j = k
                              · subst e; exact ⟨hq1, q⟩
                              · exact (HP.out.1 rfl).2 j h (by omega)⟩, fun q => (q.2 k hlt4 (by omega)).2⟩)
                          have hd1 : decide ((1 : Int) ≤ ds[k]) = true := decide_eq_true hq1
                          clear hq1
                          generalize ds[k] = q at *
                          go_wp2_with fail
                          go_round
                          case rel => exact ⟨k + 1, _, by omega, by go_num, rfl, HN.out⟩
                          case measure => simp [intOf]; omega
                        · have HN := Lib.hid (show ¬ ((false && cb) = true ∧ ∀ (j : Nat) (h : j < ds.length), j < k + 1 → 1 ≤ ds[j] ∧ ds[j] ≤ 4294967295) from fun q => hq1 (q.2 k hlt4 (by omega)).1)
                          have hd1 : decide ((1 : Int) ≤ ds[k]) = false := decide_eq_false hq1
                          clear hq1
                          generalize ds[k] = q at *
                          go_wp2_with fail
                          go_round
                          case rel => exact ⟨k + 1, false, by omega, by go_num, rfl, ⟨fun q => (by cases q), fun q => absurd q HN.out⟩⟩
                          case measure => simp [intOf]; omega
                    · have HK := Lib.hid (show o' = true ↔ Fine ⟨true, ks, vs, ds⟩ by
                        rw [HP.out, HF.out]
                        refine ⟨fun q => by have := q.1; simp at this, fun q => by have := q.2.2; cases this⟩)
                      cases o'
                      · have HR := Lib.hid (HE5.out fun q => by have := HK.out.2 q; cases this)
                        go_wp2_with fail
                        go_ret
                        exact ⟨by rw [HR.out]; rfl, Below.step B1.out HBW.out⟩
                      · have HR := Lib.hid (HE0.out (HK.out.1 rfl))
                        go_wp2_with fail
                        go_ret
                        exact ⟨by rw [HR.out]; rfl, Below.step B1.out HBW.out⟩
                · by_cases h1 : vs.length = ks.length
                  · have e1 : ((vs.length : Int) == (ks.length : Int)) = true := by simp; omega
                    have HG := Lib.hid (show ds.length = 0 ↔ (true && cb) = true by rw [Bool.true_and, HCB.out]; simp [h1])
                    go_wp2_with fail
                    go_loop [5, 7] (fun o i => ∃ (k : Nat) (o' : Bool), k ≤ ds.length ∧ i = .int .i64 k ∧ o = .bool o' ∧ (o' = true ↔ (true && cb) = true ∧ ∀ (j : Nat) (h : j < ds.length), j < k → 1 ≤ ds[j] ∧ ds[j] ≤ 4294967295)) (fun _ i => ds.length - (intOf i).toNat)
                    case atStart => exact ⟨0, _, by omega, rfl, rfl, ⟨fun q => ⟨HG.out.1 (by simpa using q), fun j h q => (by omega)⟩, fun q => (by simpa using HG.out.2 q.1)⟩⟩
                    case round =>
                      obtain ⟨k, o', hk, rfl, rfl, hpre⟩ := hrel
                      have HP := Lib.hid hpre
                      clear hpre
                      by_cases hlt4 : k < ds.length
                      · cases o'
                        · have HN := Lib.hid (show ¬ ((true && cb) = true ∧ ∀ (j : Nat) (h : j < ds.length), j < k + 1 → 1 ≤ ds[j] ∧ ds[j] ≤ 4294967295) from fun q => by
                            have := HP.out.2 ⟨q.1, fun j h g => q.2 j h (by omega)⟩
                            cases this)
                          go_wp2_with fail
                          go_round
                          case rel => exact ⟨k + 1, false, by omega, by go_num, rfl, ⟨fun q => (by cases q), fun q => absurd q HN.out⟩⟩
                          case measure => simp [intOf]; omega
                        · obtain ⟨ad, hDe, hb, hcell⟩ := ints_get HRD.out k hlt4
                          rw [hDe] at c3
                          clear hDe
                          by_cases hq1 : 1 ≤ ds[k]
                          · have HN := Lib.hid (show decide (ds[k] ≤ 4294967295) = true ↔ (true && cb) = true ∧ ∀ (j : Nat) (h : j < ds.length), j < k + 1 → 1 ≤ ds[j] ∧ ds[j] ≤ 4294967295 by
                              rw [decide_eq_true_iff]
                              exact ⟨fun q => ⟨(HP.out.1 rfl).1, fun j h g => by
                                by_cases e : j = k
                                · subst e; exact ⟨hq1, q⟩
                                · exact (HP.out.1 rfl).2 j h (by omega)⟩, fun q => (q.2 k hlt4 (by omega)).2⟩)
                            have hd1 : decide ((1 : Int) ≤ ds[k]) = true := decide_eq_true hq1
                            clear hq1
                            generalize ds[k] = q at *
                            go_wp2_with fail
                            go_round
                            case rel => exact ⟨k + 1, _, by omega, by go_num, rfl, HN.out⟩
                            case measure => simp [intOf]; omega
                          · have HN := Lib.hid (show ¬ ((true && cb) = true ∧ ∀ (j : Nat) (h : j < ds.length), j < k + 1 → 1 ≤ ds[j] ∧ ds[j] ≤ 4294967295) from fun q => hq1 (q.2 k hlt4 (by omega)).1)
                            have hd1 : decide ((1 : Int) ≤ ds[k]) = false := decide_eq_false hq1
                            clear hq1
                            generalize ds[k] = q at *
                            go_wp2_with fail
                            go_round
                            case rel => exact ⟨k + 1, false, by omega, by go_num, rfl, ⟨fun q => (by cases q), fun q => absurd q HN.out⟩⟩
                            case measure => simp [intOf]; omega
                      · have HK := Lib.hid (show o' = true ↔ Fine ⟨true, ks, vs, ds⟩ by
                          rw [HP.out, HF.out]
                          refine ⟨fun q => ⟨by have := q.1; simp at this; exact this, HKB.out.2 fun t ht => by obtain ⟨j, hj, rfl⟩ := List.mem_iff_getElem.1 ht; exact q.2 j hj (by omega), by have := q.1; simp at this; first | rfl | trivial⟩, fun q => ⟨by simp [q.1], fun j h _ => HKB.out.1 q.2.1 _ (List.getElem_mem h)⟩⟩)
                        cases o'
                        · have HR := Lib.hid (HE5.out fun q => by have := HK.out.2 q; cases this)
                          go_wp2_with fail
                          go_ret
                          exact ⟨by rw [HR.out]; rfl, Below.step B1.out HBW.out⟩
                        · have HR := Lib.hid (HE0.out (HK.out.1 rfl))
                          go_wp2_with fail
                          go_ret
                          exact ⟨by rw [HR.out]; rfl, Below.step B1.out HBW.out⟩
                  · have e1 : ((vs.length : Int) == (ks.length : Int)) = false := by simp; omega
                    have HG := Lib.hid (show False ↔ (true && cb) = true by rw [Bool.true_and, HCB.out]; simp [h1])
                    go_wp2_with fail
                    go_loop [5, 7] (fun o i => ∃ (k : Nat) (o' : Bool), k ≤ ds.length ∧ i = .int .i64 k ∧ o = .bool o' ∧ (o' = true ↔ (true && cb) = true ∧ ∀ (j : Nat) (h : j < ds.length), j < k → 1 ≤ ds[j] ∧ ds[j] ≤ 4294967295)) (fun _ i => ds.length - (intOf i).toNat)
                    case atStart => exact ⟨0, _, by omega, rfl, rfl, ⟨fun q => (by simp at q), fun q => (HG.out.2 q.1).elim⟩⟩
                    case round =>
                      obtain ⟨k, o', hk, rfl, rfl, hpre⟩ := hrel
                      have HP := Lib.hid hpre
                      clear hpre
                      by_cases hlt4 : k < ds.length
                      · cases o'
                        · have HN := Lib.hid (show ¬ ((true && cb) = true ∧ ∀ (j : Nat) (h : j < ds.length), j < k + 1 → 1 ≤ ds[j] ∧ ds[j] ≤ 4294967295) from fun q => by
                            have := HP.out.2 ⟨q.1, fun j h g => q.2 j h (by omega)⟩
                            cases this)
                          go_wp2_with fail
                          go_round
                          case rel => exact ⟨k + 1, false, by omega, by go_num, rfl, ⟨fun q => (by cases q), fun q => absurd q HN.out⟩⟩
                          case measure => simp [intOf]; omega
                        · obtain ⟨ad, hDe, hb, hcell⟩ := ints_get HRD.out k hlt4
                          rw [hDe] at c3
                          clear hDe
                          by_cases hq1 : 1 ≤ ds[k]
                          · have HN := Lib.hid (show decide (ds[k] ≤ 4294967295) = true ↔ (true && cb) = true ∧ ∀ (j : Nat) (h : j < ds.length), j < k + 1 → 1 ≤ ds[j] ∧ ds[j] ≤ 4294967295 by
                              rw [decide_eq_true_iff]
                              exact ⟨fun q => ⟨(HP.out.1 rfl).1, fun j h g => by
                                by_cases e : j = k
                                · subst e; exact ⟨hq1, q⟩
                                · exact (HP.out.1 rfl).2 j h (by omega)⟩, fun q => (q.2 k hlt4 (by omega)).2⟩)
                            have hd1 : decide ((1 : Int) ≤ ds[k]) = true := decide_eq_true hq1
                            clear hq1
                            generalize ds[k] = q at *
                            go_wp2_with fail
                            go_round
                            case rel => exact ⟨k + 1, _, by omega, by go_num, rfl, HN.out⟩
                            case measure => simp [intOf]; omega
                          · have HN := Lib.hid (show ¬ ((true && cb) = true ∧ ∀ (j : Nat) (h : j < ds.length), j < k + 1 → 1 ≤ ds[j] ∧ ds[j] ≤ 4294967295) from fun q => hq1 (q.2 k hlt4 (by omega)).1)
                            have hd1 : decide ((1 : Int) ≤ ds[k]) = false := decide_eq_false hq1
                            clear hq1
                            generalize ds[k] = q at *
                            go_wp2_with fail
                            go_round
                            case rel => exact ⟨k + 1, false, by omega, by go_num, rfl, ⟨fun q => (by cases q), fun q => absurd q HN.out⟩⟩
                            case measure => simp [intOf]; omega
                      · have HK := Lib.hid (show o' = true ↔ Fine ⟨true, ks, vs, ds⟩ by
                          rw [HP.out, HF.out]
                          refine ⟨fun q => ⟨by have := q.1; simp at this; exact this, HKB.out.2 fun t ht => by obtain ⟨j, hj, rfl⟩ := List.mem_iff_getElem.1 ht; exact q.2 j hj (by omega), by have := q.1; simp at this; first | rfl | trivial⟩, fun q => ⟨by simp [q.1], fun j h _ => HKB.out.1 q.2.1 _ (List.getElem_mem h)⟩⟩)
                        cases o'
                        · have HR := Lib.hid (HE5.out fun q => by have := HK.out.2 q; cases this)
                          go_wp2_with fail
                          go_ret
                          exact ⟨by rw [HR.out]; rfl, Below.step B1.out HBW.out⟩
                        · have HR := Lib.hid (HE0.out (HK.out.1 rfl))
                          go_wp2_with fail
                          go_ret
                          exact ⟨by rw [HR.out]; rfl, Below.step B1.out HBW.out⟩
end Go.Proofs.Ytpcpfcllgadghaa.NodeRefCheck
