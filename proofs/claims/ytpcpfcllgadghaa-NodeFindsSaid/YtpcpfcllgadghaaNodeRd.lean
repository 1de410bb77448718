/- The contract of read. -/
import Derived.Test.YtpcpfcllgadghaaNodeTwo
import Derived.Test.YtpcpfcllgadghaaReg
namespace Go.Proofs.Ytpcpfcllgadghaa.NodeRd
open Go.RowKit Base NodePlain NodeRead NodeSlice NodeCheck NodeBox NodeEnt NodeTwo

theorem under_str : Try.prog.underlying 9 = some .string := by kernel_rfl
theorem cut_lh (q : ByteArray) (x : Nat) (h : 1 + x ≤ q.size) (w : World) : (Instr.sliceAt 9 (.string q) (some (.int .i64 1)) (some (.int .i64 (1 + (x : Int)))) none).run Try.prog w = .ok (.string (q.extract 1 (1 + x))) w := by
  rw [run_sliceAt_string _ _ _ _ _ _ under_str, run_slice_string _ _ _ _ _ _ _ under_str (by omega) (by omega) (by omega)]
  rw [show (1 + (x : Int)).toNat = 1 + x by omega]
  rfl
theorem cut_l (q : ByteArray) (x : Nat) (h : 1 + x ≤ q.size) (w : World) : (Instr.sliceAt 9 (.string q) (some (.int .i64 (1 + (x : Int)))) none none).run Try.prog w = .ok (.string (q.extract (1 + x) q.size)) w := by
  rw [run_sliceAt_string _ _ _ _ _ _ under_str, run_slice_string_l _ _ _ under_str _ _ (by omega) (by omega)]
  rw [show (1 + (x : Int)).toNat = 1 + x by omega]
theorem ent_data (k b : ByteArray) : (ent k b).data.toList = UInt8.ofNat k.size :: (k.data.toList ++ b.data.toList) := by simp [ent]
theorem ent_dec (q : ByteArray) (h0 : 0 < q.size) (h1 : 1 + q[0].toNat ≤ q.size) : q = ent (q.extract 1 (1 + q[0].toNat)) (q.extract (1 + q[0].toNat) q.size) ∧ (q.extract 1 (1 + q[0].toNat)).size = q[0].toNat := by
  have hs : (q.extract 1 (1 + q[0].toNat)).size = q[0].toNat := by rw [ByteArray.size_extract]; omega
  refine ⟨?_, hs⟩
  apply bs_ext
  rw [ent_data, hs, UInt8.ofNat_toNat]
  have e : ∀ a b, (q.extract a b).data.toList = (q.data.toList.take b).drop a := fun a b => by rw [Lib.extract_data]; simp [List.drop_take]
  rw [e, e]
  have hl : q.data.toList.length = q.size := rfl
  rw [List.take_of_length_le (l := q.data.toList) (i := q.size) (by omega)]
  cases hq : q.data.toList with
  | nil => rw [hq] at hl; simp at hl; omega
  | cons x l =>
    have hx : q[0] = x := by
      have : q.data.toList[0]'(by omega) = x := by simp [hq]
      rw [← this]; rfl
    rw [hx]
    have : 1 + x.toNat = x.toNat + 1 := by omega
    rw [this]
    simp
theorem ent_no {q : ByteArray} (h : q.size = 0) (k b : ByteArray) : ent k b ≠ q := by
  intro e
  have := congrArg (fun x : ByteArray => x.data.toList.length) e
  simp only [ent_data] at this
  have hl : q.data.toList.length = q.size := rfl
  rw [hl, h] at this
  simp at this
theorem ent_no2 {q : ByteArray} (h0 : 0 < q.size) (h1 : ¬ 1 + q[0].toNat ≤ q.size) (k b : ByteArray) (hk : k.size ≤ 255) : ent k b ≠ q := by
  rintro rfl
  have h2 : (ent k b)[0] = UInt8.ofNat k.size := by
    have : (ent k b).data.toList[0]'(by have : (ent k b).data.toList.length = (ent k b).size := rfl; omega) = UInt8.ofNat k.size := by simp [ent_data]
    rw [← this]; rfl
  have h3 : (ent k b).size = 1 + k.size + b.size := by
    have : (ent k b).data.toList.length = (ent k b).size := rfl
    rw [← this, ent_data, List.length_cons, List.length_append]
    have a1 : k.data.toList.length = k.size := rfl
    have a2 : b.data.toList.length = b.size := rfl
    omega
  rw [h2, h3, UInt8.toNat_ofNat'] at h1
  omega
/-- what read comes to -/
def ReadPost (W : World) (cs : List ByteArray) (e : Ending) (w' : World) : Prop := Below W.heap.size W w' ∧
  ((∃ A m c B m2 d ks bs, e = .returned (.tuple #[.slice A m c, .slice B m2 d, .bool true]) ∧ SlO W.heap.size (strs ks) (.slice A m c) w' ∧ SlO W.heap.size (strs bs) (.slice B m2 d) w' ∧ ks.length = cs.length ∧ bs.length = cs.length ∧ ents ks bs = cs ∧ ∀ q ∈ ks, q.size ≤ 255) ∨
   (e = .returned (.tuple #[.slice none 0 0, .slice none 0 0, .bool false]) ∧ ∀ ks bs, (∀ q ∈ ks, q.size ≤ 255) → ks.length = bs.length → ents ks bs ≠ cs))
theorem ents_at {ks bs cs : List ByteArray} (h : ents ks bs = cs) (hl : ks.length = bs.length) {i : Nat} (hi : i < cs.length) : ∃ (h1 : i < ks.length) (h2 : i < bs.length), cs[i] = ent ks[i] bs[i] := by
  subst h
  have : i < ks.length := by have := hi; simp [ents] at this; omega
  exact ⟨this, by omega, by simp [ents]⟩
set_option maxRecDepth 100000 in
set_option maxHeartbeats 6400000 in
theorem read_any (w : World) (A0 : Option Addr) (n c0 : Nat) (cs : List ByteArray) (hn : n = cs.length) (hr : Row w w.heap.size A0 (strs cs)) (hl : cs.length ≤ 1000) (hz : ∀ q ∈ cs, q.size ≤ 1000) :
    Calls Try.prog 58 #[.slice A0 n c0] w (ReadPost w cs) := by
  subst hn
  go_enter Try.func58, Try.ntmps58
  go_wp2_with fail
  go_loopw [2, 3, 10] (fun v y i wr => ∃ (k : Nat) (A : Option Addr) (c : Nat) (B : Option Addr) (d : Nat) (ks bs : List ByteArray), k ≤ cs.length ∧ i = .int .i64 k ∧ v = .slice A k c ∧ y = .slice B k d ∧ Two wr w.heap.size A c (strs ks) B d (strs bs) ∧
    (ks.length = k ∧ bs.length = k ∧ ents ks bs = cs.take k ∧ ∀ q ∈ ks, q.size ≤ 255) ∧ Below w.heap.size w wr) (fun _ _ i _ => cs.length - (intOf i).toNat)
  case atStart => exact ⟨0, none, 0, none, 0, [], [], by omega, rfl, rfl, rfl, Two.nil _ _, ⟨rfl, rfl, rfl, by simp⟩, Below.refl _ _⟩
  case round =>
    obtain ⟨k, A, c, B, d, ks, bs, hk, rfl, rfl, rfl, hT, hres, hb⟩ := hrel
    have HRS := Lib.hid hres
    clear hres
    by_cases hlt : k < cs.length
    · obtain ⟨ad, rfl, hb1, hc1⟩ := strs_get (hr.belowSize hb) k hlt
      have hsz := hz _ (List.getElem_mem hlt)
      have HBAD := Lib.hid (show (∀ ks bs, (∀ q ∈ ks, q.size ≤ 255) → ks.length = bs.length → (∀ kk b, kk.size ≤ 255 → ent kk b ≠ cs[k]) → ents ks bs ≠ cs) from fun ks bs h1 h2 h3 e => by
        obtain ⟨i1, i2, i3⟩ := ents_at e h2 hlt
        exact h3 _ _ (h1 _ (List.getElem_mem i1)) i3.symm)
      have HTK := Lib.hid (show cs.take (k + 1) = cs.take k ++ [cs[k]] from List.take_succ_eq_append_getElem hlt)
      generalize cs[k] = q at *
      by_cases h0 : 0 < q.size
      · have hne : q.toList.isEmpty = false := by
          rw [Lib.toList_data]
          cases hq : q.data.toList with
          | nil => have hl : q.data.toList.length = q.size := rfl; rw [hq] at hl; simp at hl; omega
          | cons x l => rfl
        by_cases h1 : 1 + q[0].toNat ≤ q.size
        · obtain ⟨hdec, hks⟩ := ent_dec q h0 h1
          have hs1 := cut_lh q q[0].toNat h1
          have hs2 := cut_l q q[0].toNat h1
          have hxl := UInt8.toNat_lt q[0]
          have hi1 : ((1 : Int) + (q[0].toNat : Int)) ≤ (q.size : Int) := by omega
          obtain ⟨K, hKK⟩ : ∃ K, K = q.extract 1 (1 + q[0].toNat) := ⟨_, rfl⟩
          obtain ⟨V, hVV⟩ : ∃ V, V = q.extract (1 + q[0].toNat) q.size := ⟨_, rfl⟩
          rw [← hKK] at hs1 hdec hks
          rw [← hVV] at hs2 hdec
          clear hKK hVV
          have HL1 := Lib.hid (show k = (strs ks).length by rw [strs_len, HRS.out.1])
          have HL2 := Lib.hid (show k = (strs bs).length by rw [strs_len, HRS.out.2.1])
          have HSK := Lib.hid (show strs (ks ++ [K]) = strs ks ++ [.string K] by simp [strs])
          have HSV := Lib.hid (show strs (bs ++ [V]) = strs bs ++ [.string V] by simp [strs])
          have HRES := Lib.hid (show (ks ++ [K]).length = k + 1 ∧ (bs ++ [V]).length = k + 1 ∧ ents (ks ++ [K]) (bs ++ [V]) = cs.take (k + 1) ∧ ∀ q ∈ ks ++ [K], q.size ≤ 255 from
            ⟨by rw [List.length_append, HRS.out.1]; rfl, by rw [List.length_append, HRS.out.2.1]; rfl, by rw [HTK.out, ← HRS.out.2.2.1, ents, List.zipWith_append (by rw [HRS.out.1, HRS.out.2.1]), hdec]; rfl, fun t ht => by
              rcases List.mem_append.1 ht with g | g
              · exact HRS.out.2.2.2 t g
              · rw [List.mem_singleton.1 g]; omega⟩)
          clear hdec hks
          go_wp2_with fail
          refine wp_region_any (by kernel_rfl) ?_
          change wpAny _ _ _ _ _ _ _ (World.drew _)
          obtain ⟨u0, hu0⟩ : ∃ v, v = World.drew wr := ⟨_, rfl⟩
          rw [← hu0]
          have hB0 : Below w.heap.size w u0 := by rw [hu0]; exact hb.drew
          have hT : Two u0 w.heap.size A c (strs ks) B d (strs bs) := by rw [hu0]; exact hT.below (Below.refl _ _).drew
          clear hu0 hb
          refine Reg.take_at (i := 0) (d := 24) (v := ?_) rfl rfl (by kernel_rfl) (by kernel_rfl) (by kernel_rfl) (fun _ _ _ h => h) (Or.inl ⟨by rfl, ?_⟩) ?_
          rotate_left 1
          · intro w; go_simp <;> with_reducible rfl
          simp only [Act.put, List.setIfInBounds_toArray, List.set_cons_zero, List.set_cons_succ]
          refine Reg.take_at (i := 1) (d := 25) (v := ?_) rfl rfl (by kernel_rfl) (by kernel_rfl) (by kernel_rfl) (fun _ _ _ h => h) (Or.inl ⟨by rfl, ?_⟩) ?_
          rotate_left 1
          · intro w; go_simp <;> with_reducible rfl
          simp only [Act.put, List.setIfInBounds_toArray, List.set_cons_zero, List.set_cons_succ]
          refine Reg.take_at (i := 2) (d := 26) (v := ?_) rfl rfl (by kernel_rfl) (by kernel_rfl) (by kernel_rfl) (fun _ _ _ h => h) (Or.inl ⟨by rfl, ?_⟩) ?_
          rotate_left 1
          · intro w; go_simp <;> with_reducible rfl
          simp only [Act.put, List.setIfInBounds_toArray, List.set_cons_zero, List.set_cons_succ]
          refine Reg.take_at (i := 3) (d := 27) (v := ?_) rfl rfl (by kernel_rfl) (by kernel_rfl) (by kernel_rfl) (fun _ _ _ h => h) (Or.inl ⟨by rfl, ?_⟩) ?_
          rotate_left 1
          · intro w; go_simp <;> with_reducible rfl
          simp only [Act.put, List.setIfInBounds_toArray, List.set_cons_zero, List.set_cons_succ]
          refine Reg.take_at (i := 6) (d := 30) (v := ?_) rfl rfl (by kernel_rfl) (by kernel_rfl) (by kernel_rfl) (fun _ _ _ h => h) (Or.inl ⟨by rfl, ?_⟩) ?_
          rotate_left 1
          · intro w; go_simp <;> with_reducible rfl
          simp only [Act.put, List.setIfInBounds_toArray, List.set_cons_zero, List.set_cons_succ]
          refine Reg.take_at (i := 7) (d := 31) (v := ?_) rfl rfl (by kernel_rfl) (by kernel_rfl) (by kernel_rfl) (fun _ _ _ h => h) (Or.inl ⟨by rfl, ?_⟩) ?_
          rotate_left 1
          · intro w; go_simp <;> with_reducible rfl
          simp only [Act.put, List.setIfInBounds_toArray, List.set_cons_zero, List.set_cons_succ]
          refine Reg.take_at (i := 8) (d := 32) (v := ?_) rfl rfl (by kernel_rfl) (by kernel_rfl) (by kernel_rfl) (fun _ _ _ h => h) (Or.inl ⟨by rfl, ?_⟩) ?_
          rotate_left 1
          · intro w; go_simp <;> with_reducible rfl
          simp only [Act.put, List.setIfInBounds_toArray, List.set_cons_zero, List.set_cons_succ]
          refine Reg.take_at (i := 9) (d := 33) (v := ?_) rfl rfl (by kernel_rfl) (by kernel_rfl) (by kernel_rfl) (fun _ _ _ h => h) (Or.inl ⟨by rfl, ?_⟩) ?_
          rotate_left 1
          · intro w; go_simp <;> with_reducible rfl
          simp only [Act.put, List.setIfInBounds_toArray, List.set_cons_zero, List.set_cons_succ]
          refine wpAny_ready (rs := [4, 10]) (by decide +kernel) (by simp) ?_
          refine AllReady.cons rfl (fun KK hK => ?_) ?_
          · go_simp
            refine hK _ _ ?_
            clear hK KK
            obtain ⟨u1, hw⟩ : ∃ v, v = u0.alloc (.cells #[.string K] 9) := ⟨_, rfl⟩
            rw [← hw]
            have hst0 : Below u0.heap.size u0 u1 := by rw [hw]; exact al _ _
            have hB1 := bstep hB0 hB0.size hst0
            have ha4 : At u1 u0.heap.size 9 #[.string K] := by rw [hw]; exact at_new _ _ _
            have hT := hT.below hst0
            clear hw
            refine wpAny_ready (rs := [5, 10]) (by decide +kernel) (by simp) ?_
            refine AllReady.cons rfl (fun KK hK => ?_) ?_
            · obtain ⟨A2, c2, u2, hrun, hT2, hB2, hkeep, _, _⟩ := hT.app u0.heap.size (.string K) _ ha4 rfl k HL1.out (by omega) hB1.size (Nat.le_refl _) hB1
              refine step_append_d (d := 29) rfl rfl (.tmp 24) (.tmp 28) 22 22 rfl (vs := .slice A k c) (vx := .slice (some ⟨u0.heap.size, 0, none⟩) 1 1) (by simp [Act.eval]) (by simp [Act.eval]) hrun ?_
              refine hK _ _ ?_
              clear hK KK hrun hkeep
              have hT := hT2
              simp only [Act.put, List.setIfInBounds_toArray, List.set_cons_zero, List.set_cons_succ]
              refine wpAny_ready (rs := [10]) (by decide +kernel) (by simp) ?_
              refine AllReady.cons rfl (fun KK hK => ?_) AllReady.nil
              go_simp
              refine hK _ _ ?_
              clear hK KK
              obtain ⟨u3, hw⟩ : ∃ v, v = u2.alloc (.cells #[.string V] 9) := ⟨_, rfl⟩
              rw [← hw]
              have hst2 : Below u2.heap.size u2 u3 := by rw [hw]; exact al _ _
              have hB3 := bstep hB2 hB2.size hst2
              have ha10 : At u3 u2.heap.size 9 #[.string V] := by rw [hw]; exact at_new _ _ _
              have hT := hT.below hst2
              clear hw
              refine wpAny_ready (rs := [11]) (by decide +kernel) (by simp) ?_
              refine AllReady.cons rfl (fun KK hK => ?_) AllReady.nil
              obtain ⟨B2, d2, u4, hrun, hT3, hB4, _, _, _⟩ := hT.symm.app u2.heap.size (.string V) _ ha10 rfl k HL2.out (by omega) hB3.size (Nat.le_refl _) hB3
              refine step_append_d (d := 35) rfl rfl (.tmp 30) (.tmp 34) 22 22 rfl (vs := .slice B k d) (vx := .slice (some ⟨u2.heap.size, 0, none⟩) 1 1) (by simp [Act.eval]) (by simp [Act.eval]) hrun ?_
              refine hK _ _ ?_
              clear hK KK hrun
              have hT := hT3.symm
              simp only [Act.put, List.setIfInBounds_toArray, List.set_cons_zero, List.set_cons_succ]
              refine Reg.take_at (i := 12) (d := 2) (v := ?_) rfl rfl (by kernel_rfl) (by kernel_rfl) (by kernel_rfl) (fun _ _ _ h => h) (Or.inl ⟨by rfl, ?_⟩) ?_
              rotate_left 1
              · intro w; go_simp <;> with_reducible rfl
              simp only [Act.put, List.setIfInBounds_toArray, List.set_cons_zero, List.set_cons_succ]
              refine Reg.take_at (i := 13) (d := 3) (v := ?_) rfl rfl (by kernel_rfl) (by kernel_rfl) (by kernel_rfl) (fun _ _ _ h => h) (Or.inl ⟨by rfl, ?_⟩) ?_
              rotate_left 1
              · intro w; go_simp <;> with_reducible rfl
              simp only [Act.put, List.setIfInBounds_toArray, List.set_cons_zero, List.set_cons_succ]
              refine wpAny_done (by kernel_rfl) ?_ _
              go_wp2_with fail
              go_roundw
              case rel => exact ⟨k + 1, A2, c2, B2, d2, ks ++ [K], bs ++ [V], by omega, by go_num, rfl, rfl, by rw [HSK.out, HSV.out]; exact hT, HRES.out, hB4⟩
              case measure => simp [intOf]; omega
            refine AllReady.cons rfl (fun KK hK => ?_) AllReady.nil
            go_simp
            refine hK _ _ ?_
            clear hK KK
            obtain ⟨u2, hw⟩ : ∃ v, v = u1.alloc (.cells #[.string V] 9) := ⟨_, rfl⟩
            rw [← hw]
            have hst1 : Below u1.heap.size u1 u2 := by rw [hw]; exact al _ _
            have hB2 := bstep hB1 hB1.size hst1
            have ha10 : At u2 u1.heap.size 9 #[.string V] := by rw [hw]; exact at_new _ _ _
            have hn10 : ∀ a, A = some a → a.block ≠ u1.heap.size := fun a e => by have := own_lt hT.a e; omega
            have hT := hT.below hst1
            have ha4 := ha4.below hst1
            clear hw
            refine wpAny_ready (rs := [5]) (by decide +kernel) (by simp) ?_
            refine AllReady.cons rfl (fun KK hK => ?_) AllReady.nil
            obtain ⟨A2, c2, u3, hrun, hT2, hB3, hkeep, _, _⟩ := hT.app u0.heap.size (.string K) _ ha4 rfl k HL1.out (by omega) hB2.size (Nat.le_refl _) hB2
            have ha10 := hkeep _ _ _ ha10 hn10
            refine step_append_d (d := 29) rfl rfl (.tmp 24) (.tmp 28) 22 22 rfl (vs := .slice A k c) (vx := .slice (some ⟨u0.heap.size, 0, none⟩) 1 1) (by simp [Act.eval]) (by simp [Act.eval]) hrun ?_
            refine hK _ _ ?_
            clear hK KK hrun hkeep
            have hT := hT2
            simp only [Act.put, List.setIfInBounds_toArray, List.set_cons_zero, List.set_cons_succ]
            refine wpAny_ready (rs := [11]) (by decide +kernel) (by simp) ?_
            refine AllReady.cons rfl (fun KK hK => ?_) AllReady.nil
            obtain ⟨B2, d2, u4, hrun, hT3, hB4, _, _, _⟩ := hT.symm.app u1.heap.size (.string V) _ ha10 rfl k HL2.out (by omega) hB3.size (Nat.le_refl _) hB3
            refine step_append_d (d := 35) rfl rfl (.tmp 30) (.tmp 34) 22 22 rfl (vs := .slice B k d) (vx := .slice (some ⟨u1.heap.size, 0, none⟩) 1 1) (by simp [Act.eval]) (by simp [Act.eval]) hrun ?_
            refine hK _ _ ?_
            clear hK KK hrun
            have hT := hT3.symm
            simp only [Act.put, List.setIfInBounds_toArray, List.set_cons_zero, List.set_cons_succ]
            refine Reg.take_at (i := 12) (d := 2) (v := ?_) rfl rfl (by kernel_rfl) (by kernel_rfl) (by kernel_rfl) (fun _ _ _ h => h) (Or.inl ⟨by rfl, ?_⟩) ?_
            rotate_left 1
            · intro w; go_simp <;> with_reducible rfl
            simp only [Act.put, List.setIfInBounds_toArray, List.set_cons_zero, List.set_cons_succ]
            refine Reg.take_at (i := 13) (d := 3) (v := ?_) rfl rfl (by kernel_rfl) (by kernel_rfl) (by kernel_rfl) (fun _ _ _ h => h) (Or.inl ⟨by rfl, ?_⟩) ?_
            rotate_left 1
            · intro w; go_simp <;> with_reducible rfl
            simp only [Act.put, List.setIfInBounds_toArray, List.set_cons_zero, List.set_cons_succ]
            refine wpAny_done (by kernel_rfl) ?_ _
            go_wp2_with fail
            go_roundw
            case rel => exact ⟨k + 1, A2, c2, B2, d2, ks ++ [K], bs ++ [V], by omega, by go_num, rfl, rfl, by rw [HSK.out, HSV.out]; exact hT, HRES.out, hB4⟩
            case measure => simp [intOf]; omega
          refine AllReady.cons rfl (fun KK hK => ?_) AllReady.nil
          go_simp
          refine hK _ _ ?_
          clear hK KK
          obtain ⟨u1, hw⟩ : ∃ v, v = u0.alloc (.cells #[.string V] 9) := ⟨_, rfl⟩
          rw [← hw]
          have hst0 : Below u0.heap.size u0 u1 := by rw [hw]; exact al _ _
          have hB1 := bstep hB0 hB0.size hst0
          have ha10 : At u1 u0.heap.size 9 #[.string V] := by rw [hw]; exact at_new _ _ _
          have hn10 : ∀ a, A = some a → a.block ≠ u0.heap.size := fun a e => by have := own_lt hT.a e; omega
          have hT := hT.below hst0
          clear hw
          refine wpAny_ready (rs := [4]) (by decide +kernel) (by simp) ?_
          refine AllReady.cons rfl (fun KK hK => ?_) AllReady.nil
          go_simp
          refine hK _ _ ?_
          clear hK KK
          obtain ⟨u2, hw⟩ : ∃ v, v = u1.alloc (.cells #[.string K] 9) := ⟨_, rfl⟩
          rw [← hw]
          have hst1 : Below u1.heap.size u1 u2 := by rw [hw]; exact al _ _
          have hB2 := bstep hB1 hB1.size hst1
          have ha4 : At u2 u1.heap.size 9 #[.string K] := by rw [hw]; exact at_new _ _ _
          have hT := hT.below hst1
          have ha10 := ha10.below hst1
          clear hw
          refine wpAny_ready (rs := [5]) (by decide +kernel) (by simp) ?_
          refine AllReady.cons rfl (fun KK hK => ?_) AllReady.nil
          obtain ⟨A2, c2, u3, hrun, hT2, hB3, hkeep, _, _⟩ := hT.app u1.heap.size (.string K) _ ha4 rfl k HL1.out (by omega) hB2.size (Nat.le_refl _) hB2
          have ha10 := hkeep _ _ _ ha10 hn10
          refine step_append_d (d := 29) rfl rfl (.tmp 24) (.tmp 28) 22 22 rfl (vs := .slice A k c) (vx := .slice (some ⟨u1.heap.size, 0, none⟩) 1 1) (by simp [Act.eval]) (by simp [Act.eval]) hrun ?_
          refine hK _ _ ?_
          clear hK KK hrun hkeep
          have hT := hT2
          simp only [Act.put, List.setIfInBounds_toArray, List.set_cons_zero, List.set_cons_succ]
          refine wpAny_ready (rs := [11]) (by decide +kernel) (by simp) ?_
          refine AllReady.cons rfl (fun KK hK => ?_) AllReady.nil
          obtain ⟨B2, d2, u4, hrun, hT3, hB4, _, _, _⟩ := hT.symm.app u0.heap.size (.string V) _ ha10 rfl k HL2.out (by omega) hB3.size (Nat.le_refl _) hB3
          refine step_append_d (d := 35) rfl rfl (.tmp 30) (.tmp 34) 22 22 rfl (vs := .slice B k d) (vx := .slice (some ⟨u0.heap.size, 0, none⟩) 1 1) (by simp [Act.eval]) (by simp [Act.eval]) hrun ?_
          refine hK _ _ ?_
          clear hK KK hrun
          have hT := hT3.symm
          simp only [Act.put, List.setIfInBounds_toArray, List.set_cons_zero, List.set_cons_succ]
          refine Reg.take_at (i := 12) (d := 2) (v := ?_) rfl rfl (by kernel_rfl) (by kernel_rfl) (by kernel_rfl) (fun _ _ _ h => h) (Or.inl ⟨by rfl, ?_⟩) ?_
          rotate_left 1
          · intro w; go_simp <;> with_reducible rfl
          simp only [Act.put, List.setIfInBounds_toArray, List.set_cons_zero, List.set_cons_succ]
          refine Reg.take_at (i := 13) (d := 3) (v := ?_) rfl rfl (by kernel_rfl) (by kernel_rfl) (by kernel_rfl) (fun _ _ _ h => h) (Or.inl ⟨by rfl, ?_⟩) ?_
          rotate_left 1
          · intro w; go_simp <;> with_reducible rfl
          simp only [Act.put, List.setIfInBounds_toArray, List.set_cons_zero, List.set_cons_succ]
          refine wpAny_done (by kernel_rfl) ?_ _
          go_wp2_with fail
          go_roundw
          case rel => exact ⟨k + 1, A2, c2, B2, d2, ks ++ [K], bs ++ [V], by omega, by go_num, rfl, rfl, by rw [HSK.out, HSV.out]; exact hT, HRES.out, hB4⟩
          case measure => simp [intOf]; omega
        · have HB2 := Lib.hid (ent_no2 h0 h1)
          have hi1 : (q.size : Int) < (1 : Int) + (q[0].toNat : Int) := by omega
          have hxl := UInt8.toNat_lt q[0]
          go_wp2_with fail
          go_returns
          exact ⟨hb, .inr ⟨rfl, fun ks bs h1 h2 => HBAD.out ks bs h1 h2 HB2.out⟩⟩
      · have h0' : q.size = 0 := by omega
        have HB2 := Lib.hid (ent_no h0')
        have hne : q.toList.isEmpty = true := by
          rw [Lib.toList_data, List.eq_nil_of_length_eq_zero (l := q.data.toList) h0']
          rfl
        clear h0 h0'
        go_wp2_with fail
        go_returns
        exact ⟨hb, .inr ⟨rfl, fun ks bs h1 h2 => HBAD.out ks bs h1 h2 fun k b _ => HB2.out k b⟩⟩
    · obtain rfl : k = cs.length := by omega
      have HL1 := Lib.hid (show cs.length = (strs ks).length by rw [strs_len, HRS.out.1])
      have HL2 := Lib.hid (show cs.length = (strs bs).length by rw [strs_len, HRS.out.2.1])
      go_wp2_with fail
      go_returns
      refine ⟨hb, .inl ⟨_, _, _, _, _, _, ks, bs, rfl, own_slo hT.a _ HL1.out, own_slo hT.b _ HL2.out, HRS.out.1, HRS.out.2.1, ?_, HRS.out.2.2.2⟩⟩
      rw [HRS.out.2.2.1, List.take_of_length_le (Nat.le_refl _)]
end Go.Proofs.Ytpcpfcllgadghaa.NodeRd
