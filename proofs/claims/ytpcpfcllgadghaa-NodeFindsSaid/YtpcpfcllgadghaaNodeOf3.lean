/- The contract of Of. -/
import Derived.Test.YtpcpfcllgadghaaNodeOf2
namespace Go.Proofs.Ytpcpfcllgadghaa.NodeOf3
open Go.RowKit Base NodePlain NodeRead NodeSlice NodeCheck NodeBox NodeEnt NodeTwo NodeRd NodeOf NodeCells NodeOf2

/-- what Of comes to -/
def OfPost (W : World) (leaf : Bool) (cs : List ByteArray) (e : Ending) (w' : World) : Prop := Below W.heap.size W w' ∧
  ((∃ v n, e = .returned (.tuple #[v, .int .i64 0]) ∧ NvO W.heap.size n v w' ∧ n.leaf = leaf ∧ cells n = cs ∧ Ok n ∧ Small n) ∨
   (e = .returned (.tuple #[.agg #[.bool false, .slice none 0 0, .slice none 0 0, .slice none 0 0], .int .i64 50]) ∧ ∀ n, n.leaf = leaf → Ok n → cells n ≠ cs))
theorem chk_any (n : Nd) : ∃ er, Chk n er := by
  by_cases h1 : Long n.keys ∨ Long n.vals
  · exact ⟨51, .inl ⟨h1, rfl⟩⟩
  · by_cases h2 : Fine n
    · exact ⟨0, .inr (.inr ⟨h1, h2, rfl⟩)⟩
    · exact ⟨50, .inr (.inl ⟨h1, h2, rfl⟩)⟩
set_option maxRecDepth 100000 in
set_option maxHeartbeats 6400000 in
theorem of_true (w : World) (A0 : Option Addr) (n c0 : Nat) (cs : List ByteArray) (hn : n = cs.length) (hr : Row w w.heap.size A0 (strs cs)) (_hc : cs.length ≤ c0) (hl : cs.length ≤ 900) (hz : ∀ q ∈ cs, q.size ≤ 1000) :
    Calls Try.prog 20 #[.bool true, .slice A0 n c0] w (OfPost w true cs) := by
  subst hn
  have b1 := al w (.cells #[.bool false, .slice none 0 0, .slice none 0 0, .slice none 0 0] 25)
  have hz0 := zero_node w
  have htell := leafOf_any (w.alloc (.cells #[.bool false, .slice none 0 0, .slice none 0 0, .slice none 0 0] 25)) A0 cs.length c0 cs rfl (hr.belowSize b1) (by omega) hz
  have hsz1 : (w.alloc (.cells #[.bool false, .slice none 0 0, .slice none 0 0, .slice none 0 0] 25)).heap.size = w.heap.size + 1 := by simp
  have HSZ := Lib.hid hsz1
  have HL := Lib.hid hl
  have HZ := Lib.hid hz
  clear hsz1 hr hl hz
  go_enter Try.func20, Try.ntmps20
  go_wp2_with fail
  refine htell.mono ?_
  rintro e w2 ⟨b2, hcase⟩
  have hat := hz0.below b2
  have hb := Below.step b1 b2
  clear htell hz0 b1 b2
  rcases hcase with ⟨v, nd, rfl, hN, hlf, hcells, hwd, hk1, hk2, hk3, hk4⟩ | ⟨v, x, A1, m1, k1, A2, m2, k2, A3, m3, k3, rfl, rfl, hno⟩
  · rw [HSZ.out] at hN
    obtain ⟨er, her⟩ := chk_any nd
    have HER := Lib.hid her
    have hsm : Small nd := ⟨by have := HL.out; omega, by have := HL.out; omega, by have := HL.out; omega, fun q hq => by have := hwd.ks q hq; omega, hk4⟩
    have HF := Lib.hid (show nd.leaf = true ∧ cells nd = cs ∧ Small nd from ⟨hlf, hcells, hsm⟩)
    have HNO := Lib.hid (show ¬ Ok nd → ∀ n, n.leaf = true → Ok n → cells n ≠ cs from fun hno n e ho hcc => hno (by
      have := cells_inj (Ok.wd ho) hwd (e.trans hlf.symm) (hcc.trans hcells.symm)
      rw [← this]; exact ho))
    have HN := Lib.hid hN
    have HLF := Lib.hid hlf
    obtain ⟨a, b, c, hvv, hA, hB, hC⟩ := hN
    rw [hlf] at hvv
    subst hvv
    obtain ⟨A1, m1, k1, rfl⟩ := hA.form
    obtain ⟨A2, m2, k2, rfl⟩ := hB.form
    obtain ⟨A3, m3, k3, rfl⟩ := hC.form
    have bn : Below w2.heap.size w2 (w2.alloc (.cells #[.bool true, .slice A1 m1 k1, .slice A2 m2 k2, .slice A3 m3 k3] 25)) := al _ _
    have h7 := at_new w2 #[.bool true, .slice A1 m1 k1, .slice A2 m2 k2, .slice A3 m3 k3] 25
    have hat3 := hat.below bn
    have hb3 := bstep hb hb.size bn
    have HN3 := Lib.hid (HN.out.below bn)
    have hlt := heap_lt hat
    clear hA hB hC hat hb bn hlf hcells hwd hk1 hk2 hk3 hk4 hsm
    obtain ⟨w3, hw3⟩ : ∃ v, v = w2.alloc (.cells #[.bool true, .slice A1 m1 k1, .slice A2 m2 k2, .slice A3 m3 k3] 25) := ⟨_, rfl⟩
    rw [← hw3] at h7 hat3 hb3 HN3
    have HW3 := Lib.hid hw3
    clear hw3
    go_wp2_with fail
    rw [← HW3.out]
    have F7 := h7.f4
    obtain ⟨s0, s1, s2, s3, _, _, _, _⟩ := F7
    clear HW3
    generalize hg7 : w2.heap.size = g7 at *
    clear hg7
    obtain ⟨hd, hv, hlay⟩ := HN3.out.nv
    have hck := check_any w3 nd hd hlay HF.out.2.2 er HER.out
    rw [← hv] at hck
    clear hv hlay hd
    go_wp2_with fail
    refine hck.mono ?_
    rintro e w5 ⟨rfl, b5⟩
    have hat5 := hat3.below b5
    have h75 := h7.below b5
    have hb5 := bstep hb3 hb3.size b5
    have hN5 := HN3.out.below b5
    clear hck hat3 h7 hb3 b5 s0 s1 s2 s3 HN3
    obtain ⟨q0, q1, q2, q3, z0, z1, z2, z3⟩ := hat5.f4
    by_cases he0 : er = 0
    · subst he0
      have HOK := Lib.hid ((chk_ok HER.out).1 rfl)
      have hA := set4 hat5 (.bool true) (.slice A1 m1 k1) (.slice A2 m2 k2) (.slice A3 m3 k3)
      have hB := below4 hb5 (Nat.le_refl _) (.bool true) (.slice A1 m1 k1) (.slice A2 m2 k2) (.slice A3 m3 k3)
      have HV := Lib.hid ((hN5.st4 (g := w.heap.size) (a := .bool true) (b := .slice A1 m1 k1) (c := .slice A2 m2 k2) (d := .slice A3 m3 k3) (by omega)).low (Nat.le_succ _))
      have HA := Lib.hid hA
      have HB := Lib.hid hB
      obtain ⟨s0, s1, s2, s3, _, _, _, _⟩ := h75.f4
      clear hA hB hN5 hat5 h75 hb5
      go_wp2_with fail
      refine bodyPost_ret (results_cell_tmp_row rfl _ _ w.heap.size 25 _ (0, 0) _ rfl HA.out Try.underlying25 rfl (by kernel_rfl)) rfl ?_
      exact ⟨HB.out, .inl ⟨_, nd, rfl, HV.out, HF.out.1, HF.out.2.1, HOK.out, HF.out.2.2⟩⟩
    · have HOK := Lib.hid (HNO.out (fun q => he0 ((chk_ok HER.out).2 q)))
      have he2 : (er != 0) = true := by simpa using he0
      clear he0
      have hA := set4 hat5 (.bool false) (.slice none 0 0) (.slice none 0 0) (.slice none 0 0)
      have hB := below4 hb5 (Nat.le_refl _) (.bool false) (.slice none 0 0) (.slice none 0 0) (.slice none 0 0)
      have HA := Lib.hid hA
      have HB := Lib.hid hB
      clear hA hB hN5 hat5 h75 hb5
      go_wp2_with fail
      refine bodyPost_ret (results_cell_tmp_row rfl _ _ w.heap.size 25 _ (0, 0) _ rfl HA.out Try.underlying25 rfl (by kernel_rfl)) rfl ?_
      exact ⟨HB.out, .inr ⟨rfl, HOK.out⟩⟩
  · have bn : Below w2.heap.size w2 (w2.alloc (.cells #[.bool x, .slice A1 m1 k1, .slice A2 m2 k2, .slice A3 m3 k3] 25)) := al _ _
    have hat3 := hat.below bn
    have hb3 := bstep hb hb.size bn
    have HNO := Lib.hid hno
    clear hat hb bn hno
    have HA := Lib.hid (set4 hat3 (.bool false) (.slice none 0 0) (.slice none 0 0) (.slice none 0 0))
    have HB := Lib.hid (below4 hb3 (Nat.le_refl _) (.bool false) (.slice none 0 0) (.slice none 0 0) (.slice none 0 0))
    obtain ⟨q0, q1, q2, q3, z0, z1, z2, z3⟩ := hat3.f4
    clear hat3 hb3
    go_wp2_with fail
    refine bodyPost_ret (results_cell_tmp_row rfl _ _ w.heap.size 25 _ (0, 0) _ rfl HA.out Try.underlying25 rfl (by kernel_rfl)) rfl ?_
    exact ⟨HB.out, .inr ⟨rfl, HNO.out⟩⟩
set_option maxRecDepth 100000 in
set_option maxHeartbeats 6400000 in
theorem of_false (w : World) (A0 : Option Addr) (n c0 : Nat) (cs : List ByteArray) (hn : n = cs.length) (hr : Row w w.heap.size A0 (strs cs)) (hc : cs.length ≤ c0) (hl : cs.length ≤ 900) (hz : ∀ q ∈ cs, q.size ≤ 1000) :
    Calls Try.prog 20 #[.bool false, .slice A0 n c0] w (OfPost w false cs) := by
  subst hn
  have b1 := al w (.cells #[.bool false, .slice none 0 0, .slice none 0 0, .slice none 0 0] 25)
  have hz0 := zero_node w
  have htell := branchOf_any (w.alloc (.cells #[.bool false, .slice none 0 0, .slice none 0 0, .slice none 0 0] 25)) A0 cs.length c0 cs rfl (hr.belowSize b1) hc (by omega) hz
  have hsz1 : (w.alloc (.cells #[.bool false, .slice none 0 0, .slice none 0 0, .slice none 0 0] 25)).heap.size = w.heap.size + 1 := by simp
  have HSZ := Lib.hid hsz1
  have HL := Lib.hid hl
  have HZ := Lib.hid hz
  clear hsz1 hr hc hl hz
  go_enter Try.func20, Try.ntmps20
  go_wp2_with fail
  refine htell.mono ?_
  rintro e w2 ⟨b2, hcase⟩
  have hat := hz0.below b2
  have hb := Below.step b1 b2
  clear htell hz0 b1 b2
  rcases hcase with ⟨v, nd, rfl, hN, hlf, hcells, hwd, hk1, hk2, hk3, hk4⟩ | ⟨v, x, A1, m1, k1, A2, m2, k2, A3, m3, k3, rfl, rfl, hno⟩
  · rw [HSZ.out] at hN
    obtain ⟨er, her⟩ := chk_any nd
    have HER := Lib.hid her
    have hsm : Small nd := ⟨by have := HL.out; omega, by have := HL.out; omega, by have := HL.out; omega, fun q hq => by have := hwd.ks q hq; omega, hk4⟩
    have HF := Lib.hid (show nd.leaf = false ∧ cells nd = cs ∧ Small nd from ⟨hlf, hcells, hsm⟩)
    have HNO := Lib.hid (show ¬ Ok nd → ∀ n, n.leaf = false → Ok n → cells n ≠ cs from fun hno n e ho hcc => hno (by
      have := cells_inj (Ok.wd ho) hwd (e.trans hlf.symm) (hcc.trans hcells.symm)
      rw [← this]; exact ho))
    have HN := Lib.hid hN
    have HLF := Lib.hid hlf
    obtain ⟨a, b, c, hvv, hA, hB, hC⟩ := hN
    rw [hlf] at hvv
    subst hvv
    obtain ⟨A1, m1, k1, rfl⟩ := hA.form
    obtain ⟨A2, m2, k2, rfl⟩ := hB.form
    obtain ⟨A3, m3, k3, rfl⟩ := hC.form
    have bn : Below w2.heap.size w2 (w2.alloc (.cells #[.bool false, .slice A1 m1 k1, .slice A2 m2 k2, .slice A3 m3 k3] 25)) := al _ _
    have h7 := at_new w2 #[.bool false, .slice A1 m1 k1, .slice A2 m2 k2, .slice A3 m3 k3] 25
    have hat3 := hat.below bn
    have hb3 := bstep hb hb.size bn
    have HN3 := Lib.hid (HN.out.below bn)
    have hlt := heap_lt hat
    clear hA hB hC hat hb bn hlf hcells hwd hk1 hk2 hk3 hk4 hsm
    obtain ⟨w3, hw3⟩ : ∃ v, v = w2.alloc (.cells #[.bool false, .slice A1 m1 k1, .slice A2 m2 k2, .slice A3 m3 k3] 25) := ⟨_, rfl⟩
    rw [← hw3] at h7 hat3 hb3 HN3
    have HW3 := Lib.hid hw3
    clear hw3
    go_wp2_with fail
    rw [← HW3.out]
    have F7 := h7.f4
    obtain ⟨s0, s1, s2, s3, _, _, _, _⟩ := F7
    clear HW3
    generalize hg7 : w2.heap.size = g7 at *
    clear hg7
    obtain ⟨hd, hv, hlay⟩ := HN3.out.nv
    have hck := check_any w3 nd hd hlay HF.out.2.2 er HER.out
    rw [← hv] at hck
    clear hv hlay hd
    go_wp2_with fail
    refine hck.mono ?_
    rintro e w5 ⟨rfl, b5⟩
    have hat5 := hat3.below b5
    have h75 := h7.below b5
    have hb5 := bstep hb3 hb3.size b5
    have hN5 := HN3.out.below b5
    clear hck hat3 h7 hb3 b5 s0 s1 s2 s3 HN3
    obtain ⟨q0, q1, q2, q3, z0, z1, z2, z3⟩ := hat5.f4
    by_cases he0 : er = 0
    · subst he0
      have HOK := Lib.hid ((chk_ok HER.out).1 rfl)
      have hA := set4 hat5 (.bool false) (.slice A1 m1 k1) (.slice A2 m2 k2) (.slice A3 m3 k3)
      have hB := below4 hb5 (Nat.le_refl _) (.bool false) (.slice A1 m1 k1) (.slice A2 m2 k2) (.slice A3 m3 k3)
      have HV := Lib.hid ((hN5.st4 (g := w.heap.size) (a := .bool false) (b := .slice A1 m1 k1) (c := .slice A2 m2 k2) (d := .slice A3 m3 k3) (by omega)).low (Nat.le_succ _))
      have HA := Lib.hid hA
      have HB := Lib.hid hB
      obtain ⟨s0, s1, s2, s3, _, _, _, _⟩ := h75.f4
      clear hA hB hN5 hat5 h75 hb5
      go_wp2_with fail
      refine bodyPost_ret (results_cell_tmp_row rfl _ _ w.heap.size 25 _ (0, 0) _ rfl HA.out Try.underlying25 rfl (by kernel_rfl)) rfl ?_
      exact ⟨HB.out, .inl ⟨_, nd, rfl, HV.out, HF.out.1, HF.out.2.1, HOK.out, HF.out.2.2⟩⟩
    · have HOK := Lib.hid (HNO.out (fun q => he0 ((chk_ok HER.out).2 q)))
      have he2 : (er != 0) = true := by simpa using he0
      clear he0
      have hA := set4 hat5 (.bool false) (.slice none 0 0) (.slice none 0 0) (.slice none 0 0)
      have hB := below4 hb5 (Nat.le_refl _) (.bool false) (.slice none 0 0) (.slice none 0 0) (.slice none 0 0)
      have HA := Lib.hid hA
      have HB := Lib.hid hB
      clear hA hB hN5 hat5 h75 hb5
      go_wp2_with fail
      refine bodyPost_ret (results_cell_tmp_row rfl _ _ w.heap.size 25 _ (0, 0) _ rfl HA.out Try.underlying25 rfl (by kernel_rfl)) rfl ?_
      exact ⟨HB.out, .inr ⟨rfl, HOK.out⟩⟩
  · have bn : Below w2.heap.size w2 (w2.alloc (.cells #[.bool x, .slice A1 m1 k1, .slice A2 m2 k2, .slice A3 m3 k3] 25)) := al _ _
    have hat3 := hat.below bn
    have hb3 := bstep hb hb.size bn
    have HNO := Lib.hid hno
    clear hat hb bn hno
    have HA := Lib.hid (set4 hat3 (.bool false) (.slice none 0 0) (.slice none 0 0) (.slice none 0 0))
    have HB := Lib.hid (below4 hb3 (Nat.le_refl _) (.bool false) (.slice none 0 0) (.slice none 0 0) (.slice none 0 0))
    obtain ⟨q0, q1, q2, q3, z0, z1, z2, z3⟩ := hat3.f4
    clear hat3 hb3
    go_wp2_with fail
    refine bodyPost_ret (results_cell_tmp_row rfl _ _ w.heap.size 25 _ (0, 0) _ rfl HA.out Try.underlying25 rfl (by kernel_rfl)) rfl ?_
    exact ⟨HB.out, .inr ⟨rfl, HNO.out⟩⟩
end Go.Proofs.Ytpcpfcllgadghaa.NodeOf3
