/- The walk of NodeOf. -/
import Derived.Test.YtpcpfcllgadghaaNodeRefCells
import Derived.Test.YtpcpfcllgadghaaNodeRefCheck
namespace Go.Proofs.Ytpcpfcllgadghaa.NodeOfL
open Go.RowKit Base NodePlain NodeRead NodeSlice NodeCheck NodeBox NodeEnt NodeCells NodeRd NodeOf2 NodeOf3 NodeFind NodeAwake NodePlumb NodeRooms NodeRefCheck NodeRefCells

theorem rcells_any (W : World) (n : Nd) (h : Hd) (hl : Lay W n h) (hs : Small n) (hok : Ok n) :
    Calls Try.prog 22 #[nv n h] W fun e w' => ∃ A m c, e = .returned (.slice A m c) ∧ SlO (W.heap.size + 1) (strs (cells n)) (.slice A m c) w' ∧ Below W.heap.size W w' := by
  cases hleaf : n.leaf with
  | true => exact rcells_true W n h hl hs hok hleaf
  | false => exact rcells_false W n h hl hs hok hleaf
theorem of_any (b : Bool) (w : World) (A0 : Option Addr) (n c0 : Nat) (cs : List ByteArray) (hn : n = cs.length) (hr : Row w w.heap.size A0 (strs cs)) (hc : cs.length ≤ c0) (hl : cs.length ≤ 900) (hz : ∀ q ∈ cs, q.size ≤ 1000) :
    Calls Try.prog 20 #[.bool b, .slice A0 n c0] w (OfPost w b cs) := by
  cases b
  · exact of_false w A0 n c0 cs hn hr hc hl hz
  · exact of_true w A0 n c0 cs hn hr hc hl hz
def zero : Nd := ⟨false, [], [], []⟩
set_option maxRecDepth 100000 in
set_option maxHeartbeats 3200000 in
theorem NodeOf_walk (b : Bool) (A : Option Addr) (c : Nat) (cs : List ByteArray) (W : World) (hr : Row W W.heap.size A (strs cs)) (hm : cs.length ≤ maxLen) :
    Calls Try.prog 4 #[.bool b, .slice A cs.length c] W (Law W) := by
  unfold maxLen at hm
  have HR := Lib.hid (fun (w' : World) (hb : Below W.heap.size W w') => hr.belowSize hb)
  clear hr
  go_enter Try.func4, Try.ntmps4
  go_wp2_with fail
  refine (awake_any W).mono ?_
  rintro e w1 ⟨rfl, b1⟩
  by_cases h1 : 100 < cs.length
  · have hx : ((100 : Int) < (cs.length : Int)) = True := by simp; omega
    clear h1
    go_wp2_with fail
    refine (awake_any w1).mono ?_
    rintro e w2 ⟨rfl, b2⟩
    go_wp2_with fail
    go_ret
    exact ⟨rfl, Below.step b1 b2⟩
  · have hx : ((100 : Int) < (cs.length : Int)) = False := by simp; omega
    go_wp2_with fail
    clear hx
    have hr1 := HR.out w1 b1
    go_loop [5] (fun i => ∃ k : Nat, k ≤ cs.length ∧ i = .int .i64 k ∧ ∀ (j : Nat) (h : j < cs.length), j < k → cs[j].size ≤ 300) (fun i => cs.length - (intOf i).toNat)
    case atStart => exact ⟨0, by omega, rfl, by intro j h q; omega⟩
    case round =>
      obtain ⟨k, hk, rfl, hpre⟩ := hrel
      have HP := Lib.hid hpre
      clear hpre
      by_cases hlt : k < cs.length
      · obtain ⟨ad, rfl, hbk, hcell⟩ := strs_get hr1 k hlt
        by_cases hq : 300 < cs[k].size
        · have hq' : (300 : Int) < (cs[k].size : Int) := by omega
          generalize cs[k] = q at *
          go_wp2_with fail
          go_ret
          exact ⟨rfl, b1⟩
        · have HN := Lib.hid (show ∀ (j : Nat) (h : j < cs.length), j < k + 1 → cs[j].size ≤ 300 from fun j h q => by
            by_cases e : j = k
            · subst e; omega
            · exact HP.out j h (by omega))
          generalize cs[k] = q at *
          go_wp2_with fail
          go_round
          case rel => exact ⟨k + 1, by omega, by go_num, HN.out⟩
          case measure => simp [intOf]; omega
      · have HZ := Lib.hid (show ∀ q ∈ cs, q.size ≤ 1000 from fun t ht => by
          obtain ⟨j, hj, rfl⟩ := List.mem_iff_getElem.1 ht
          have := HP.out j hj (by omega)
          omega)
        clear HP
        go_wp2_with (at_builtin; refine wpList_append_row rfl (.tmp 30) (.tmp 31) 22 rfl el_strs (A := some ⟨w1.heap.size, 0, none⟩) (c := 0) (n := 0) (m := cs.length) (xs := []) rfl rfl (Own.empty w1 _ (Nat.le_refl _)) rfl (by simp [strs]) (hr1.below ((Below.refl _ _).alloc (Nat.le_refl _) _)) (strs_1 _) (by simp [strs, maxLen]; omega) (by simp [strs]; omega) (by simp) ?_; intro A3 c3 w3 hown3 hg3; obtain ⟨hrow3, hbb3, ho3⟩ := copy_step hown3 hg3)
        have hb3 := bstep b1 b1.size hbb3
        have hcap := ho3.cap
        rw [strs_len] at hcap
        have hof := of_any b w3 A3 (0 + cs.length) c3 cs (by omega) hrow3 hcap.1 (by omega) HZ.out
        rw [Nat.zero_add] at hof
        clear hown3 hg3 hrow3 ho3 hbb3 hcap
        refine hof.mono ?_
        rintro e w4 ⟨b4', hcase⟩
        have b4 : Below w3.heap.size w3 w4 := b4'
        have hb4 := bstep hb3 hb3.size b4
        clear hof b4' b4 hb3 hr1
        rcases hcase with ⟨v, nd, rfl, hN, hlf, hcc, hok, hsm⟩ | ⟨rfl, hno⟩
        · obtain ⟨hd, hv, hl⟩ := hN.nv
          subst hv
          have b5 := box_below w4 nd hd
          have bx := bx_new w4 nd hd
          have hl5 := hl.below b5
          have hb5 := bstep hb4 hb4.size b5
          obtain ⟨w5, hw5⟩ : ∃ v, v = box w4 nd hd := ⟨_, rfl⟩
          rw [← hw5] at bx hl5 hb5
          unfold box at hw5
          have HW5 := Lib.hid hw5
          have HL5 := Lib.hid (fun (w' : World) (hb : Below w5.heap.size w5 w') => hl5.below hb)
          have HX5 := Lib.hid (fun (w' : World) (hb : Below w5.heap.size w5 w') => bx.below hb)
          have HB5 := Lib.hid hb5
          have hck := rcheck_any w5 nd hd hl5 hsm 0 (.inr (.inr ⟨hok.1, hok.2, rfl⟩))
          have hlfb : (nd.leaf == b) = true := by rw [hlf]; simp
          have HLF := Lib.hid hlf
          obtain ⟨c0, c1, c2, c3', _⟩ := bx
          rw [HW5.out] at c0 c1 c2 c3'
          clear hw5 b5 hl5 hb5 hlf hN hl
          go_wp2_with fail
          rw [← HW5.out]
          clear HW5 c0 c1 c2 c3'
          generalize w4.heap.size = g4 at *
          refine hck.mono ?_
          rintro e w6 ⟨rfl, b6⟩
          clear hck
          obtain ⟨c0, c1, c2, c3', _⟩ := HX5.out w6 b6
          have hrc := rcells_any w6 nd hd (HL5.out w6 b6) hsm hok
          rw [hcc] at hrc
          go_wp2_with fail
          refine hrc.mono ?_
          rintro e w7 ⟨A7, m7, c7, rfl, hA7, b7⟩
          clear hrc c0 c1 c2 c3'
          have b57 := bstep b6 b6.size b7
          have hb7 := Below.step HB5.out b57
          obtain ⟨A7', m7', c7', e1, e2, e3, hr7, _⟩ := hA7
          injection e1 with e1 e4 e5
          subst e1 e4 e5
          rw [strs_len] at e2
          have hsa := Same_b A7 A c7 c m7 cs.length cs cs e2 rfl hr7 (HR.out w7 hb7) (by simp only [maxLen]; omega) (by simp only [maxLen]; omega)
          rw [decide_eq_true rfl] at hsa
          clear e2 e3 hr7
          go_wp2_with fail
          refine hsa.mono ?_
          rintro e w8 ⟨rfl, b8⟩
          clear hsa
          go_wp2_with fail
          go_ret
          exact ⟨rfl, Below.step hb7 b8⟩
        · have b5 := box_below w4 zero ⟨none, 0, none, 0, none, 0⟩
          have bx := bx_new w4 zero ⟨none, 0, none, 0, none, 0⟩
          have hb5 := bstep hb4 hb4.size b5
          have hlz : ∀ w', Lay w' zero ⟨none, 0, none, 0, none, 0⟩ := fun w' => ⟨Row.nil, Row.nil, Row.nil, Nat.le_refl _, Nat.le_refl _, Nat.le_refl _⟩
          have hsa := NodeSame.rsame_any (box w4 zero ⟨none, 0, none, 0, none, 0⟩) zero zero ⟨none, 0, none, 0, none, 0⟩ ⟨none, 0, none, 0, none, 0⟩ (hlz _) (hlz _) (by decide) (by decide) (by decide) (by decide) (by decide) true (by simp)
          have hsa' : Calls Try.prog 23 #[.agg #[.bool false, .slice none 0 0, .slice none 0 0, .slice none 0 0], .agg #[.bool false, .slice none 0 0, .slice none 0 0, .slice none 0 0]] (w4.alloc (.cells #[.bool false, .slice none 0 0, .slice none 0 0, .slice none 0 0] 25)) fun e w' => e = .returned (.bool true) ∧ Below (w4.alloc (.cells #[.bool false, .slice none 0 0, .slice none 0 0, .slice none 0 0] 25)).heap.size (w4.alloc (.cells #[.bool false, .slice none 0 0, .slice none 0 0, .slice none 0 0] 25)) w' := hsa
          have HB5 := Lib.hid (show Below W.heap.size W (w4.alloc (.cells #[.bool false, .slice none 0 0, .slice none 0 0, .slice none 0 0] 25)) from hb5)
          clear hsa hlz hb5 bx b5 hno
          go_wp2_with fail
          refine hsa'.mono ?_
          rintro e w6 ⟨rfl, b6⟩
          clear hsa'
          go_wp2_with fail
          go_ret
          exact ⟨rfl, Below.step HB5.out b6⟩
end Go.Proofs.Ytpcpfcllgadghaa.NodeOfL
