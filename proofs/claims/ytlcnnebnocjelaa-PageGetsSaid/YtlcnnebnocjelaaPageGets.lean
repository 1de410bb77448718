/- The walk of PageGets. -/
import Derived.Test.YtlcnnebnocjelaaPageRefPut
import Derived.Test.YtlcnnebnocjelaaPageApart
import Derived.Test.YtlcnnebnocjelaaBlk
import Derived.Test.YtlcnnebnocjelaaReg
namespace Go.Proofs.Ytlcnnebnocjelaa.PageGets
open Go.RowKit Base PagePlain PageSmall PageBytes PageLay PagePut PageTold PageTold2 PageGet PageSame PageSame2 PageRef PageAwake PageRooms PageSameL PageApart PageFour PageRefPut1 PageRefPut SumMem SumFill SumOf SumPlain
open Blk (cp cv cv_run cv_below cv_blk)

theorem conv_row {w : World} {B b : Nat} {l : List UInt8} (hr : Row w B (some ⟨b, 0, none⟩) (bv l)) (n c : Nat) (hn : n = l.length) : (convert 29 9 (.slice (some ⟨b, 0, none⟩) n c)).run Try.prog w = .ok (.string (tx l)) w := by
  subst hn
  exact conv_bytes (P := Try.prog) Try.underlying29 Try.underlying5 Try.underlying9 c hr
theorem four_row (w : World) (VV : Nat) (hv : VV < 4294967296) : Row (w.alloc (.cells #[.int .u8 (IntKind.u8.wrap (IntKind.u32.wrap ((VV : Int) / 16777216))), .int .u8 (IntKind.u8.wrap ((IntKind.u32.wrap ((VV : Int) / 65536)).tmod 256)), .int .u8 (IntKind.u8.wrap ((IntKind.u32.wrap ((VV : Int) / 256)).tmod 256)), .int .u8 (IntKind.u8.wrap ((VV : Int).tmod 256))] 5)).drew (w.alloc (.cells #[.int .u8 (IntKind.u8.wrap (IntKind.u32.wrap ((VV : Int) / 16777216))), .int .u8 (IntKind.u8.wrap ((IntKind.u32.wrap ((VV : Int) / 65536)).tmod 256)), .int .u8 (IntKind.u8.wrap ((IntKind.u32.wrap ((VV : Int) / 256)).tmod 256)), .int .u8 (IntKind.u8.wrap ((VV : Int).tmod 256))] 5)).drew.heap.size (some ⟨w.heap.size, 0, none⟩) (bv (be4 VV)) := by
  have t1 : ∀ z : Int, 0 ≤ z → z.tmod 256 = z % 256 := fun z hz => Int.tmod_eq_emod_of_nonneg hz
  have e0 : IntKind.u8.wrap (IntKind.u32.wrap ((VV : Int) / 16777216)) = ((b8 (VV / 16777216)).toNat : Int) := by
    rw [b8_nat, IntWalk.u32_in _ (by omega), IntWalk.u8_in _ (by omega)]; omega
  have e1 : IntKind.u8.wrap ((IntKind.u32.wrap ((VV : Int) / 65536)).tmod 256) = ((b8 (VV / 65536)).toNat : Int) := by
    rw [b8_nat, IntWalk.u32_in _ (by omega), t1 _ (by omega), IntWalk.u8_in _ (by omega)]; omega
  have e2 : IntKind.u8.wrap ((IntKind.u32.wrap ((VV : Int) / 256)).tmod 256) = ((b8 (VV / 256)).toNat : Int) := by
    rw [b8_nat, IntWalk.u32_in _ (by omega), t1 _ (by omega), IntWalk.u8_in _ (by omega)]; omega
  have e3 : IntKind.u8.wrap ((VV : Int).tmod 256) = ((b8 VV).toNat : Int) := by
    rw [b8_nat, t1 _ (by omega), IntWalk.u8_in _ (by omega)]; omega
  rw [e0, e1, e2, e3]
  have h : Row (w.alloc (.cells (bv (be4 VV)).toArray 5)) (w.heap.size + 1) (some ⟨w.heap.size, 0, none⟩) (bv (be4 VV)) := by
    have := row_of_block (heap_alloc_new w (.cells (bv (be4 VV)).toArray 5))
    simpa using this
  exact h.more (by simp)
theorem drop_four {l : List UInt8} (hl : l.length = 256) (v : Nat) (hv : v < 4294967296) : l.drop 252 = be4 v ↔ v = rd4 l 252 := by
  have h4 : (l.drop 252).length = 4 := by rw [List.length_drop, hl]
  constructor
  · intro h
    have e : l = l.take 252 ++ be4 v ++ [] := by rw [← h, List.append_nil, List.take_append_drop]
    exact (rd4_be4 l (l.take 252) [] v 252 hv e (by rw [List.length_take, hl]; rfl)).symm
  · intro h
    have g : ∀ i, gt l (252 + i) = gt (l.drop 252) i := fun i => (gt_drop l 252 i).symm
    match hd : l.drop 252, h4 with
    | [a, b, c, d], _ =>
      have g0 : gt l 252 = a.toNat := by have := g 0; rw [hd] at this; exact this
      have g1 : gt l 253 = b.toNat := by have := g 1; rw [hd] at this; exact this
      have g2 : gt l 254 = c.toNat := by have := g 2; rw [hd] at this; exact this
      have g3 : gt l 255 = d.toNat := by have := g 3; rw [hd] at this; exact this
      have ha := UInt8.toNat_lt a
      have hb := UInt8.toNat_lt b
      have hc := UInt8.toNat_lt c
      have hdd := UInt8.toNat_lt d
      have hr : v = ((a.toNat * 256 + b.toNat) * 256 + c.toNat) * 256 + d.toNat := by rw [h]; unfold rd4; rw [g0, g1, g2, g3]
      have q0 : a = b8 (v / 16777216) := UInt8.toNat_inj.1 (by rw [b8_nat]; omega)
      have q1 : b = b8 (v / 65536) := UInt8.toNat_inj.1 (by rw [b8_nat]; omega)
      have q2 : c = b8 (v / 256) := UInt8.toNat_inj.1 (by rw [b8_nat]; omega)
      have q3 : d = b8 v := UInt8.toNat_inj.1 (by rw [b8_nat]; omega)
      unfold be4
      rw [← q0, ← q1, ← q2, ← q3]
theorem ex_take (B : ByteArray) : Blk.bl (B.extract 0 252) = (Blk.bl B).take 252 := by
  show (B.extract 0 252).data.toList = _
  rw [Lib.extract_data]; simp
theorem ex_drop (B : ByteArray) (h : B.size = 256) : (B.extract 252 B.size).data.toList = (Blk.bl B).drop 252 := by
  have h2 : (Blk.bl B).length = 256 := h
  rw [Lib.extract_data, h]
  exact List.take_of_length_le (by rw [List.length_drop]; show (Blk.bl B).length - 252 ≤ _; omega)
theorem cp_ge (w : World) (s : ByteArray) : s.size ≤ cp w s := grownCap_ge w s.size 0 _
set_option maxRecDepth 100000 in
set_option maxHeartbeats 6400000 in
theorem PageGets_walk (s : ByteArray) (sealed : Bool) (W : World) (hs : s.size ≤ maxLen) :
    Calls Try.prog 4 #[.string s, .bool sealed] W (Law W) := by
  unfold maxLen at hs
  have hnot : ∀ (x : Bool) (w : World), (Op.unary .not (.bool x)).run Try.prog w = .ok (.bool (!x)) w := fun _ _ => rfl
  by_cases h6 : s.size ≤ 600
  · have h6' : ¬ (600 : Int) < (s.size : Int) := by omega
    go_enter Try.func4, Try.ntmps4
    go_wp2_with fail
    refine (new_g _).mono ?_
    rintro e w1 ⟨g, rfl, hg, hx1, s1, b1⟩
    go_wp2_with fail
    refine (awakeL b1).mono ?_
    rintro e w2 ⟨rfl, b2, b3⟩
    have s2 := s1.below b2
    have hx2 : g < w2.heap.size := Nat.lt_of_lt_of_le hx1 b2.size
    clear s1 b1 b2 hx1
    go_upto_region 4 with fail
    go_cut [30] from 25 to 30 (fun s30 wx => (∃ X : Bool, s30 = .bool X ∧ (X = true → 252 ≤ s.size)) ∧ w2 = wx)
    case first =>
      cases sealed
      · go_wp2_with fail
        go_meet
        exact ⟨⟨false, rfl, fun h => by cases h⟩, rfl⟩
      · go_wp2_with fail
        go_meet
        exact ⟨⟨_, rfl, fun h => by have := of_decide_eq_true h; omega⟩, rfl⟩
    case rest =>
      obtain ⟨⟨X, rfl, hX⟩, rfl⟩ := hcut
      go_upto_if 30 with fail
      go_cut [0] from 31 to 52 (fun s0 wx => ∃ B : ByteArray, s0 = .string B ∧ B.size ≤ 600 ∧ Below w2.heap.size w2 wx)
      case first =>
        cases X
        · go_wp2_with fail
          go_meet
          exact ⟨s, rfl, h6, Below.refl _ _⟩
        · have hlo := hX rfl
          have hlo' : (252 : Int) ≤ (s.size : Int) := by omega
          have hsub : (s.extract 0 252).size = 252 := by rw [ByteArray.size_extract]; omega
          have hof := SumRef.ref_any (s.extract 0 252) w2 (by rw [hsub]; omega)
          have hsl := sum_lt (Blk.bl (s.extract 0 252))
          generalize sum (Blk.bl (s.extract 0 252)) = VV at *
          go_wp2_with fail
          refine hof.mono ?_
          rintro e w3 ⟨rfl, b3'⟩
          go_upto_region 6 with fail
          clear hof
          have hvl : VV < 4294967296 := hsl
          have zF : (tx (be4 VV)).size = 4 := rfl
          refine wp_region_any (by kernel_rfl) ?_
          change wpAny _ _ _ _ _ _ _ (World.drew _)
          refine Reg.take_at (i := 0) (d := 34) (v := ?_) rfl rfl (by kernel_rfl) (by kernel_rfl) (by kernel_rfl) (fun _ _ _ h => h) (Or.inl ⟨by rfl, ?_⟩) ?_
          rotate_left 1
          · intro w; go_simp <;> with_reducible rfl
          simp only [Act.put, List.setIfInBounds_toArray, List.set_cons_zero, List.set_cons_succ]
          refine Reg.take_at (i := 1) (d := 35) (v := ?_) rfl rfl (by kernel_rfl) (by kernel_rfl) (by kernel_rfl) (fun _ _ _ h => h) (Or.inl ⟨by rfl, ?_⟩) ?_
          rotate_left 1
          · intro w; go_simp <;> with_reducible rfl
          simp only [Act.put, List.setIfInBounds_toArray, List.set_cons_zero, List.set_cons_succ]
          refine Reg.take_at (i := 2) (d := 36) (v := ?_) rfl rfl (by kernel_rfl) (by kernel_rfl) (by kernel_rfl) (fun _ _ _ h => h) (Or.inl ⟨by rfl, ?_⟩) ?_
          rotate_left 1
          · intro w; go_simp <;> with_reducible rfl
          simp only [Act.put, List.setIfInBounds_toArray, List.set_cons_zero, List.set_cons_succ]
          refine Reg.take_at (i := 3) (d := 37) (v := ?_) rfl rfl (by kernel_rfl) (by kernel_rfl) (by kernel_rfl) (fun _ _ _ h => h) (Or.inl ⟨by rfl, ?_⟩) ?_
          rotate_left 1
          · intro w; go_simp <;> with_reducible rfl
          simp only [Act.put, List.setIfInBounds_toArray, List.set_cons_zero, List.set_cons_succ]
          refine Reg.take_at (i := 4) (d := 38) (v := ?_) rfl rfl (by kernel_rfl) (by kernel_rfl) (by kernel_rfl) (fun _ _ _ h => h) (Or.inl ⟨by rfl, ?_⟩) ?_
          rotate_left 1
          · intro w; go_simp <;> with_reducible rfl
          simp only [Act.put, List.setIfInBounds_toArray, List.set_cons_zero, List.set_cons_succ]
          refine Reg.take_at (i := 5) (d := 39) (v := ?_) rfl rfl (by kernel_rfl) (by kernel_rfl) (by kernel_rfl) (fun _ _ _ h => h) (Or.inl ⟨by rfl, ?_⟩) ?_
          rotate_left 1
          · intro w; go_simp <;> with_reducible rfl
          simp only [Act.put, List.setIfInBounds_toArray, List.set_cons_zero, List.set_cons_succ]
          refine Reg.take_at (i := 6) (d := 40) (v := ?_) rfl rfl (by kernel_rfl) (by kernel_rfl) (by kernel_rfl) (fun _ _ _ h => h) (Or.inl ⟨by rfl, ?_⟩) ?_
          rotate_left 1
          · intro w; go_simp <;> with_reducible rfl
          simp only [Act.put, List.setIfInBounds_toArray, List.set_cons_zero, List.set_cons_succ]
          refine Reg.take_at (i := 7) (d := 41) (v := ?_) rfl rfl (by kernel_rfl) (by kernel_rfl) (by kernel_rfl) (fun _ _ _ h => h) (Or.inl ⟨by rfl, ?_⟩) ?_
          rotate_left 1
          · intro w; go_simp <;> with_reducible rfl
          simp only [Act.put, List.setIfInBounds_toArray, List.set_cons_zero, List.set_cons_succ]
          refine Reg.take_at (i := 8) (d := 42) (v := ?_) rfl rfl (by kernel_rfl) (by kernel_rfl) (by kernel_rfl) (fun _ _ _ h => h) (Or.inl ⟨by rfl, ?_⟩) ?_
          rotate_left 1
          · intro w; go_simp <;> with_reducible rfl
          simp only [Act.put, List.setIfInBounds_toArray, List.set_cons_zero, List.set_cons_succ]
          refine Reg.take_at (i := 9) (d := 43) (v := ?_) rfl rfl (by kernel_rfl) (by kernel_rfl) (by kernel_rfl) (fun _ _ _ h => h) (Or.inl ⟨by rfl, ?_⟩) ?_
          rotate_left 1
          · intro w; go_simp <;> with_reducible rfl
          simp only [Act.put, List.setIfInBounds_toArray, List.set_cons_zero, List.set_cons_succ]
          refine Reg.take_at (i := 10) (d := 44) (v := ?_) rfl rfl (by kernel_rfl) (by kernel_rfl) (by kernel_rfl) (fun _ _ _ h => h) (Or.inl ⟨by rfl, ?_⟩) ?_
          rotate_left 1
          · intro w; go_simp <;> with_reducible rfl
          simp only [Act.put, List.setIfInBounds_toArray, List.set_cons_zero, List.set_cons_succ]
          refine Reg.take_at (i := 11) (d := 45) (v := ?_) rfl rfl (by kernel_rfl) (by kernel_rfl) (by kernel_rfl) (fun _ _ _ h => h) (Or.inl ⟨by rfl, ?_⟩) ?_
          rotate_left 1
          · intro w; go_simp <;> with_reducible rfl
          simp only [Act.put, List.setIfInBounds_toArray, List.set_cons_zero, List.set_cons_succ]
          refine Reg.take_at (i := 12) (d := 46) (v := ?_) rfl rfl (by kernel_rfl) (by kernel_rfl) (by kernel_rfl) (fun _ _ _ h => h) (Or.inl ⟨by rfl, ?_⟩) ?_
          rotate_left 1
          · intro w; go_simp <;> with_reducible rfl
          simp only [Act.put, List.setIfInBounds_toArray, List.set_cons_zero, List.set_cons_succ]
          refine Reg.take_at (i := 13) (d := 47) (v := ?_) rfl rfl (by kernel_rfl) (by kernel_rfl) (by kernel_rfl) (fun _ _ _ h => h) (Or.inl ⟨by rfl, ?_⟩) ?_
          rotate_left 1
          · intro w; go_simp <;> with_reducible rfl
          simp only [Act.put, List.setIfInBounds_toArray, List.set_cons_zero, List.set_cons_succ]
          refine Reg.take_at (i := 14) (d := 48) (v := ?_) rfl rfl (by kernel_rfl) (by kernel_rfl) (by kernel_rfl) (fun _ _ _ h => h) (Or.inl ⟨by rfl, ?_⟩) ?_
          rotate_left 1
          · intro w; go_simp <;> with_reducible rfl
          simp only [Act.put, List.setIfInBounds_toArray, List.set_cons_zero, List.set_cons_succ]
          refine Reg.take_at (i := 15) (d := 49) (v := ?_) rfl rfl (by kernel_rfl) (by kernel_rfl) (by kernel_rfl) (fun _ _ _ h => h) (Or.inl ⟨by rfl, ?_⟩) ?_
          rotate_left 1
          · intro w; go_simp <;> with_reducible rfl
          simp only [Act.put, List.setIfInBounds_toArray, List.set_cons_zero, List.set_cons_succ]
          refine wpAny_ready (rs := [16]) (by decide +kernel) (by simp) ?_
          refine AllReady.cons rfl (fun KK hK => ?_) AllReady.nil
          go_simp
          refine hK _ _ ?_
          clear hK KK
          obtain ⟨u1, hw⟩ : ∃ v, v = (w3.alloc (.cells #[.int .u8 (IntKind.u8.wrap (IntKind.u32.wrap ((VV : Int) / 16777216))), .int .u8 (IntKind.u8.wrap ((IntKind.u32.wrap ((VV : Int) / 65536)).tmod 256)), .int .u8 (IntKind.u8.wrap ((IntKind.u32.wrap ((VV : Int) / 256)).tmod 256)), .int .u8 (IntKind.u8.wrap ((VV : Int).tmod 256))] 5)).drew := ⟨_, rfl⟩
          rw [← hw]
          have hbu : Below w3.heap.size w3 u1 := by rw [hw]; exact ((Below.refl _ _).alloc (Nat.le_refl _) _).drew
          have hy : Row u1 u1.heap.size (some ⟨w3.heap.size, 0, none⟩) (bv (be4 VV)) := by rw [hw]; exact four_row w3 VV hvl
          clear hw
          refine wpAny_ready (rs := [17]) (by decide +kernel) (by simp) ?_
          refine AllReady.cons rfl (fun KK hK => ?_) AllReady.nil
          have hcv := conv_row hy 4 4 rfl
          go_simp
          refine hK _ _ ?_
          clear hK KK hcv hy
          refine Reg.take_at (i := 18) (d := 52) (v := ?_) rfl rfl (by kernel_rfl) (by kernel_rfl) (by kernel_rfl) (fun _ _ _ h => h) (Or.inl ⟨by rfl, ?_⟩) ?_
          rotate_left 1
          · intro w; go_simp <;> with_reducible rfl
          simp only [Act.put, List.setIfInBounds_toArray, List.set_cons_zero, List.set_cons_succ]
          refine Reg.take_at (i := 19) (d := 0) (v := ?_) rfl rfl (by kernel_rfl) (by kernel_rfl) (by kernel_rfl) (fun _ _ _ h => h) (Or.inl ⟨by rfl, ?_⟩) ?_
          rotate_left 1
          · intro w; go_simp <;> with_reducible rfl
          simp only [Act.put, List.setIfInBounds_toArray, List.set_cons_zero]
          refine wpAny_done (by kernel_rfl) ?_ _
          go_wp2_with fail
          go_meet
          exact ⟨_, rfl, by rw [ByteArray.size_append, hsub, zF]; omega, (b3'.trans (hbu.mono b3'.size))⟩
      case rest =>
        obtain ⟨B, rfl, hB6, hbc⟩ := hcut
        have hb5 := Below.step b3 hbc
        have s5 := s2.below hbc
        have hg5 : g < wc.heap.size := Ready.lt s5
        clear s2 b3 hbc hx2 hX
        have hcv := cv_run wc B
        have s6 := s5.below (cv_below wc B)
        have hb6 := Below.step hb5 (cv_below wc B)
        have hg6 : g < (cv wc B).heap.size := Ready.lt s6
        have hrx := (cv_blk wc B).rowX (g := g) (by omega)
        by_cases hlen : B.size = 256
        · have hne : ((B.size : Int) != 256) = false := by simp [hlen]
          have hge2 : (252 : Int) ≤ (B.size : Int) := by omega
          have hll : (Blk.bl B).length = 256 := hlen
          have HOF := Lib.hid (show ∀ x : World, Calls Try.prog 21 #[.string (B.extract 0 252)] x fun e w' => e = .returned (.int .u32 (sum ((Blk.bl B).take 252) : Nat)) ∧ Below x.heap.size x w' from fun x => by
            have := SumRef.ref_any (B.extract 0 252) x (by rw [ByteArray.size_extract]; omega)
            rwa [ex_take] at this)
          have hvl : sum ((Blk.bl B).take 252) < 4294967296 := sum_lt _
          have hgE : gotE (Blk.bl B) = if sum ((Blk.bl B).take 252) = rd4 (Blk.bl B) 252 then match got (Blk.bl B) with | none => .inl 41 | some p => .inr p else .inl 42 := by unfold gotE; rw [if_pos hll]; rfl
          have hcmp : ((B.extract 252 B.size).toList == (tx (be4 (sum ((Blk.bl B).take 252)))).toList) = decide (sum ((Blk.bl B).take 252) = rd4 (Blk.bl B) 252) := by
            rw [show tx (be4 (sum ((Blk.bl B).take 252))) = ⟨(be4 (sum ((Blk.bl B).take 252))).toArray⟩ from rfl, Str.ba_beq_mk, ex_drop B hlen]
            exact decide_eq_decide.2 (drop_four hll _ hvl)
          have HLEN := Lib.hid hlen
          have HLL := Lib.hid hll
          clear hlen hll
          by_cases hsum : sum ((Blk.bl B).take 252) = rd4 (Blk.bl B) 252
          · rw [if_pos hsum] at hgE
            rw [decide_eq_true hsum] at hcmp
            cases hgot : got (Blk.bl B) with
            | none =>
              rw [hgot] at hgE
              have HGE := Lib.hid hgE
              clear hgE hgot hsum
              generalize hVV : sum ((Blk.bl B).take 252) = VV at *
              clear hVV
              have hget := get_256 g 0 (cv wc B) ⟨wc.heap.size, 0, none⟩ B.size (cp wc B) (Blk.bl B) s6 (by omega) (by omega) hrx rfl HLEN.out (by rw [show (Blk.bl B).length = B.size from rfl]; exact cp_ge wc B)
              go_wp2_with fail
              refine hget.mono ?_
              rintro e w7 ⟨_, o7, he⟩
              have hb7 : Below W.heap.size W w7 := hb6.trans (o7.below hg hg6)
              rw [HGE.out] at he
              simp only at he
              subst he
              have hz : At (w7.alloc (.cells #[.int .i64 0, .int .i64 0, .int .i64 0, .int .i64 0, .slice none 0 0] 24)) w7.heap.size 24 #[.int .i64 0, .int .i64 0, .int .i64 0, .int .i64 0, .slice none 0 0] := heap_alloc_new w7 _
              have hb8 : Below W.heap.size W (w7.alloc (.cells #[.int .i64 0, .int .i64 0, .int .i64 0, .int .i64 0, .slice none 0 0] 24)) := hb7.alloc hb7.size _
              have hof := HOF.out (w7.alloc (.cells #[.int .i64 0, .int .i64 0, .int .i64 0, .int .i64 0, .slice none 0 0] 24))
              clear hget hcv hrx s6 o7 hb7
              go_wp2_with fail
              refine hof.mono ?_
              rintro e w9 ⟨rfl, b9⟩
              have hz9 := at_below hz b9
              have hb9 := Below.step hb8 b9
              clear hof hz hb8 b9
              go_upto_region 11 with fail
              refine wp_region_any (by kernel_rfl) ?_
              change wpAny _ _ _ _ _ _ _ (World.drew _)
              refine Reg.take_at (i := 0) (d := 73) (v := ?_) rfl rfl (by kernel_rfl) (by kernel_rfl) (by kernel_rfl) (fun _ _ _ h => h) (Or.inl ⟨by rfl, ?_⟩) ?_
              rotate_left 1
              · intro w; go_simp <;> with_reducible rfl
              simp only [Act.put, List.setIfInBounds_toArray, List.set_cons_zero, List.set_cons_succ]
              refine Reg.take_at (i := 1) (d := 74) (v := ?_) rfl rfl (by kernel_rfl) (by kernel_rfl) (by kernel_rfl) (fun _ _ _ h => h) (Or.inl ⟨by rfl, ?_⟩) ?_
              rotate_left 1
              · intro w; go_simp <;> with_reducible rfl
              simp only [Act.put, List.setIfInBounds_toArray, List.set_cons_zero, List.set_cons_succ]
              refine Reg.take_at (i := 2) (d := 75) (v := ?_) rfl rfl (by kernel_rfl) (by kernel_rfl) (by kernel_rfl) (fun _ _ _ h => h) (Or.inl ⟨by rfl, ?_⟩) ?_
              rotate_left 1
              · intro w; go_simp <;> with_reducible rfl
              simp only [Act.put, List.setIfInBounds_toArray, List.set_cons_zero, List.set_cons_succ]
              refine Reg.take_at (i := 3) (d := 76) (v := ?_) rfl rfl (by kernel_rfl) (by kernel_rfl) (by kernel_rfl) (fun _ _ _ h => h) (Or.inl ⟨by rfl, ?_⟩) ?_
              rotate_left 1
              · intro w; go_simp <;> with_reducible rfl
              simp only [Act.put, List.setIfInBounds_toArray, List.set_cons_zero, List.set_cons_succ]
              refine Reg.take_at (i := 4) (d := 77) (v := ?_) rfl rfl (by kernel_rfl) (by kernel_rfl) (by kernel_rfl) (fun _ _ _ h => h) (Or.inl ⟨by rfl, ?_⟩) ?_
              rotate_left 1
              · intro w; go_simp <;> with_reducible rfl
              simp only [Act.put, List.setIfInBounds_toArray, List.set_cons_zero, List.set_cons_succ]
              refine Reg.take_at (i := 5) (d := 78) (v := ?_) rfl rfl (by kernel_rfl) (by kernel_rfl) (by kernel_rfl) (fun _ _ _ h => h) (Or.inl ⟨by rfl, ?_⟩) ?_
              rotate_left 1
              · intro w; go_simp <;> with_reducible rfl
              simp only [Act.put, List.setIfInBounds_toArray, List.set_cons_zero, List.set_cons_succ]
              refine Reg.take_at (i := 6) (d := 79) (v := ?_) rfl rfl (by kernel_rfl) (by kernel_rfl) (by kernel_rfl) (fun _ _ _ h => h) (Or.inl ⟨by rfl, ?_⟩) ?_
              rotate_left 1
              · intro w; go_simp <;> with_reducible rfl
              simp only [Act.put, List.setIfInBounds_toArray, List.set_cons_zero, List.set_cons_succ]
              refine Reg.take_at (i := 7) (d := 80) (v := ?_) rfl rfl (by kernel_rfl) (by kernel_rfl) (by kernel_rfl) (fun _ _ _ h => h) (Or.inl ⟨by rfl, ?_⟩) ?_
              rotate_left 1
              · intro w; go_simp <;> with_reducible rfl
              simp only [Act.put, List.setIfInBounds_toArray, List.set_cons_zero, List.set_cons_succ]
              refine Reg.take_at (i := 8) (d := 81) (v := ?_) rfl rfl (by kernel_rfl) (by kernel_rfl) (by kernel_rfl) (fun _ _ _ h => h) (Or.inl ⟨by rfl, ?_⟩) ?_
              rotate_left 1
              · intro w; go_simp <;> with_reducible rfl
              simp only [Act.put, List.setIfInBounds_toArray, List.set_cons_zero, List.set_cons_succ]
              refine Reg.take_at (i := 9) (d := 82) (v := ?_) rfl rfl (by kernel_rfl) (by kernel_rfl) (by kernel_rfl) (fun _ _ _ h => h) (Or.inl ⟨by rfl, ?_⟩) ?_
              rotate_left 1
              · intro w; go_simp <;> with_reducible rfl
              simp only [Act.put, List.setIfInBounds_toArray, List.set_cons_zero, List.set_cons_succ]
              refine Reg.take_at (i := 10) (d := 83) (v := ?_) rfl rfl (by kernel_rfl) (by kernel_rfl) (by kernel_rfl) (fun _ _ _ h => h) (Or.inl ⟨by rfl, ?_⟩) ?_
              rotate_left 1
              · intro w; go_simp <;> with_reducible rfl
              simp only [Act.put, List.setIfInBounds_toArray, List.set_cons_zero, List.set_cons_succ]
              refine Reg.take_at (i := 11) (d := 84) (v := ?_) rfl rfl (by kernel_rfl) (by kernel_rfl) (by kernel_rfl) (fun _ _ _ h => h) (Or.inl ⟨by rfl, ?_⟩) ?_
              rotate_left 1
              · intro w; go_simp <;> with_reducible rfl
              simp only [Act.put, List.setIfInBounds_toArray, List.set_cons_zero, List.set_cons_succ]
              refine Reg.take_at (i := 12) (d := 85) (v := ?_) rfl rfl (by kernel_rfl) (by kernel_rfl) (by kernel_rfl) (fun _ _ _ h => h) (Or.inl ⟨by rfl, ?_⟩) ?_
              rotate_left 1
              · intro w; go_simp <;> with_reducible rfl
              simp only [Act.put, List.setIfInBounds_toArray, List.set_cons_zero, List.set_cons_succ]
              refine Reg.take_at (i := 13) (d := 86) (v := ?_) rfl rfl (by kernel_rfl) (by kernel_rfl) (by kernel_rfl) (fun _ _ _ h => h) (Or.inl ⟨by rfl, ?_⟩) ?_
              rotate_left 1
              · intro w; go_simp <;> with_reducible rfl
              simp only [Act.put, List.setIfInBounds_toArray, List.set_cons_zero, List.set_cons_succ]
              refine Reg.take_at (i := 14) (d := 87) (v := ?_) rfl rfl (by kernel_rfl) (by kernel_rfl) (by kernel_rfl) (fun _ _ _ h => h) (Or.inl ⟨by rfl, ?_⟩) ?_
              rotate_left 1
              · intro w; go_simp <;> with_reducible rfl
              simp only [Act.put, List.setIfInBounds_toArray, List.set_cons_zero, List.set_cons_succ]
              refine Reg.take_at (i := 15) (d := 88) (v := ?_) rfl rfl (by kernel_rfl) (by kernel_rfl) (by kernel_rfl) (fun _ _ _ h => h) (Or.inl ⟨by rfl, ?_⟩) ?_
              rotate_left 1
              · intro w; go_simp <;> with_reducible rfl
              simp only [Act.put, List.setIfInBounds_toArray, List.set_cons_zero, List.set_cons_succ]
              refine wpAny_ready (rs := [16]) (by decide +kernel) (by simp) ?_
              refine AllReady.cons rfl (fun KK hK => ?_) AllReady.nil
              go_simp
              refine hK _ _ ?_
              clear hK KK
              obtain ⟨u1, hw⟩ : ∃ v, v = (w9.alloc (.cells #[.int .u8 (IntKind.u8.wrap (IntKind.u32.wrap ((VV : Int) / 16777216))), .int .u8 (IntKind.u8.wrap ((IntKind.u32.wrap ((VV : Int) / 65536)).tmod 256)), .int .u8 (IntKind.u8.wrap ((IntKind.u32.wrap ((VV : Int) / 256)).tmod 256)), .int .u8 (IntKind.u8.wrap ((VV : Int).tmod 256))] 5)).drew := ⟨_, rfl⟩
              rw [← hw]
              have hbu : Below w9.heap.size w9 u1 := by rw [hw]; exact ((Below.refl _ _).alloc (Nat.le_refl _) _).drew
              have hy : Row u1 u1.heap.size (some ⟨w9.heap.size, 0, none⟩) (bv (be4 VV)) := by rw [hw]; exact four_row w9 VV hvl
              clear hw
              refine wpAny_ready (rs := [17]) (by decide +kernel) (by simp) ?_
              refine AllReady.cons rfl (fun KK hK => ?_) AllReady.nil
              have hcv := conv_row hy 4 4 rfl
              go_simp
              refine hK _ _ ?_
              clear hK KK hcv hy
              refine Reg.take_at (i := 18) (d := 91) (v := ?_) rfl rfl (by kernel_rfl) (by kernel_rfl) (by kernel_rfl) (fun _ _ _ h => h) (Or.inl ⟨by rfl, ?_⟩) ?_
              rotate_left 1
              · intro w; go_simp <;> with_reducible rfl
              simp only [Act.put, List.setIfInBounds_toArray, List.set_cons_zero, List.set_cons_succ]
              refine wpAny_done (by kernel_rfl) ?_ _
              have hz10 := at_below hz9 hbu
              have hb10 := Below.step hb9 hbu
              obtain ⟨y0, y1, y2, y3, y4⟩ := five hz10
              have hsm := rsame_any u1 ⟨0, 0, 0, 0, []⟩ ⟨0, 0, 0, 0, []⟩ none none 0 0 Row.nil Row.nil (by simp [maxLen])
              rw [same_self] at hsm
              clear hz9 hb9 hz10 hbu
              go_wp2_with fail
              refine hsm.mono ?_
              rintro e w11 ⟨rfl, b11⟩
              clear hsm y0 y1 y2 y3 y4
              go_wp2_with fail
              go_ret
              exact ⟨rfl, Below.step hb10 b11⟩
            | some p =>
              rw [hgot] at hgE
              have HGE := Lib.hid hgE
              obtain ⟨hpr, hpo, hpb⟩ := got_out hgot
              have HSM := Lib.hid (show p.cells.length ≤ 1000 ∧ ∀ q ∈ p.cells, q.size ≤ 1000 from ⟨by unfold room at hpr; omega, fun q hq => by have := size_tot hq; omega⟩)
              have HP := Lib.hid (show room p.cells ≤ 236 ∧ PgOk p ∧ tx (page p) = B from ⟨hpr, hpo, Str.ba_ext (by
                show (page p) = _
                unfold page
                rw [hpb, ← (drop_four HLL.out _ hvl).2 hsum]
                exact List.take_append_drop 252 _)⟩)
              clear hgE hgot hsum hpr hpo hpb
              generalize hVV : sum ((Blk.bl B).take 252) = VV at *
              clear hVV
              have hget := get_256 g 0 (cv wc B) ⟨wc.heap.size, 0, none⟩ B.size (cp wc B) (Blk.bl B) s6 (by omega) (by omega) hrx rfl HLEN.out (by rw [show (Blk.bl B).length = B.size from rfl]; exact cp_ge wc B)
              go_wp2_with fail
              refine hget.mono ?_
              rintro e w7 ⟨_, o7, he⟩
              have hb7 : Below W.heap.size W w7 := hb6.trans (o7.below hg hg6)
              rw [HGE.out] at he
              simp only at he
              obtain ⟨A', c', rfl, hown⟩ := he
              have hz : At (w7.alloc (.cells #[.int .i64 p.kind, .int .i64 p.no, .int .i64 p.epoch, .int .i64 p.link, .slice A' p.cells.length c'] 24)) w7.heap.size 24 #[.int .i64 p.kind, .int .i64 p.no, .int .i64 p.epoch, .int .i64 p.link, .slice A' p.cells.length c'] := heap_alloc_new w7 _
              have hown8 := hown.alloc (.cells #[.int .i64 p.kind, .int .i64 p.no, .int .i64 p.epoch, .int .i64 p.link, .slice A' p.cells.length c'] 24)
              have hb8 : Below W.heap.size W (w7.alloc (.cells #[.int .i64 p.kind, .int .i64 p.no, .int .i64 p.epoch, .int .i64 p.link, .slice A' p.cells.length c'] 24)) := hb7.alloc hb7.size _
              have hof := HOF.out (w7.alloc (.cells #[.int .i64 p.kind, .int .i64 p.no, .int .i64 p.epoch, .int .i64 p.link, .slice A' p.cells.length c'] 24))
              clear hget hcv hrx s6 o7 hb7 hown
              go_wp2_with fail
              refine hof.mono ?_
              rintro e w9 ⟨rfl, b9⟩
              have hz9 := at_below hz b9
              have hown9 := hown8.later b9
              have hb9 := Below.step hb8 b9
              clear hof hz hb8 b9 hown8
              go_upto_region 11 with fail
              refine wp_region_any (by kernel_rfl) ?_
              change wpAny _ _ _ _ _ _ _ (World.drew _)
              refine Reg.take_at (i := 0) (d := 73) (v := ?_) rfl rfl (by kernel_rfl) (by kernel_rfl) (by kernel_rfl) (fun _ _ _ h => h) (Or.inl ⟨by rfl, ?_⟩) ?_
              rotate_left 1
              · intro w; go_simp <;> with_reducible rfl
              simp only [Act.put, List.setIfInBounds_toArray, List.set_cons_zero, List.set_cons_succ]
              refine Reg.take_at (i := 1) (d := 74) (v := ?_) rfl rfl (by kernel_rfl) (by kernel_rfl) (by kernel_rfl) (fun _ _ _ h => h) (Or.inl ⟨by rfl, ?_⟩) ?_
              rotate_left 1
              · intro w; go_simp <;> with_reducible rfl
              simp only [Act.put, List.setIfInBounds_toArray, List.set_cons_zero, List.set_cons_succ]
              refine Reg.take_at (i := 2) (d := 75) (v := ?_) rfl rfl (by kernel_rfl) (by kernel_rfl) (by kernel_rfl) (fun _ _ _ h => h) (Or.inl ⟨by rfl, ?_⟩) ?_
              rotate_left 1
              · intro w; go_simp <;> with_reducible rfl
              simp only [Act.put, List.setIfInBounds_toArray, List.set_cons_zero, List.set_cons_succ]
              refine Reg.take_at (i := 3) (d := 76) (v := ?_) rfl rfl (by kernel_rfl) (by kernel_rfl) (by kernel_rfl) (fun _ _ _ h => h) (Or.inl ⟨by rfl, ?_⟩) ?_
              rotate_left 1
              · intro w; go_simp <;> with_reducible rfl
              simp only [Act.put, List.setIfInBounds_toArray, List.set_cons_zero, List.set_cons_succ]
              refine Reg.take_at (i := 4) (d := 77) (v := ?_) rfl rfl (by kernel_rfl) (by kernel_rfl) (by kernel_rfl) (fun _ _ _ h => h) (Or.inl ⟨by rfl, ?_⟩) ?_
              rotate_left 1
              · intro w; go_simp <;> with_reducible rfl
              simp only [Act.put, List.setIfInBounds_toArray, List.set_cons_zero, List.set_cons_succ]
              refine Reg.take_at (i := 5) (d := 78) (v := ?_) rfl rfl (by kernel_rfl) (by kernel_rfl) (by kernel_rfl) (fun _ _ _ h => h) (Or.inl ⟨by rfl, ?_⟩) ?_
              rotate_left 1
              · intro w; go_simp <;> with_reducible rfl
              simp only [Act.put, List.setIfInBounds_toArray, List.set_cons_zero, List.set_cons_succ]
              refine Reg.take_at (i := 6) (d := 79) (v := ?_) rfl rfl (by kernel_rfl) (by kernel_rfl) (by kernel_rfl) (fun _ _ _ h => h) (Or.inl ⟨by rfl, ?_⟩) ?_
              rotate_left 1
              · intro w; go_simp <;> with_reducible rfl
              simp only [Act.put, List.setIfInBounds_toArray, List.set_cons_zero, List.set_cons_succ]
              refine Reg.take_at (i := 7) (d := 80) (v := ?_) rfl rfl (by kernel_rfl) (by kernel_rfl) (by kernel_rfl) (fun _ _ _ h => h) (Or.inl ⟨by rfl, ?_⟩) ?_
              rotate_left 1
              · intro w; go_simp <;> with_reducible rfl
              simp only [Act.put, List.setIfInBounds_toArray, List.set_cons_zero, List.set_cons_succ]
              refine Reg.take_at (i := 8) (d := 81) (v := ?_) rfl rfl (by kernel_rfl) (by kernel_rfl) (by kernel_rfl) (fun _ _ _ h => h) (Or.inl ⟨by rfl, ?_⟩) ?_
              rotate_left 1
              · intro w; go_simp <;> with_reducible rfl
              simp only [Act.put, List.setIfInBounds_toArray, List.set_cons_zero, List.set_cons_succ]
              refine Reg.take_at (i := 9) (d := 82) (v := ?_) rfl rfl (by kernel_rfl) (by kernel_rfl) (by kernel_rfl) (fun _ _ _ h => h) (Or.inl ⟨by rfl, ?_⟩) ?_
              rotate_left 1
              · intro w; go_simp <;> with_reducible rfl
              simp only [Act.put, List.setIfInBounds_toArray, List.set_cons_zero, List.set_cons_succ]
              refine Reg.take_at (i := 10) (d := 83) (v := ?_) rfl rfl (by kernel_rfl) (by kernel_rfl) (by kernel_rfl) (fun _ _ _ h => h) (Or.inl ⟨by rfl, ?_⟩) ?_
              rotate_left 1
              · intro w; go_simp <;> with_reducible rfl
              simp only [Act.put, List.setIfInBounds_toArray, List.set_cons_zero, List.set_cons_succ]
              refine Reg.take_at (i := 11) (d := 84) (v := ?_) rfl rfl (by kernel_rfl) (by kernel_rfl) (by kernel_rfl) (fun _ _ _ h => h) (Or.inl ⟨by rfl, ?_⟩) ?_
              rotate_left 1
              · intro w; go_simp <;> with_reducible rfl
              simp only [Act.put, List.setIfInBounds_toArray, List.set_cons_zero, List.set_cons_succ]
              refine Reg.take_at (i := 12) (d := 85) (v := ?_) rfl rfl (by kernel_rfl) (by kernel_rfl) (by kernel_rfl) (fun _ _ _ h => h) (Or.inl ⟨by rfl, ?_⟩) ?_
              rotate_left 1
              · intro w; go_simp <;> with_reducible rfl
              simp only [Act.put, List.setIfInBounds_toArray, List.set_cons_zero, List.set_cons_succ]
              refine Reg.take_at (i := 13) (d := 86) (v := ?_) rfl rfl (by kernel_rfl) (by kernel_rfl) (by kernel_rfl) (fun _ _ _ h => h) (Or.inl ⟨by rfl, ?_⟩) ?_
              rotate_left 1
              · intro w; go_simp <;> with_reducible rfl
              simp only [Act.put, List.setIfInBounds_toArray, List.set_cons_zero, List.set_cons_succ]
              refine Reg.take_at (i := 14) (d := 87) (v := ?_) rfl rfl (by kernel_rfl) (by kernel_rfl) (by kernel_rfl) (fun _ _ _ h => h) (Or.inl ⟨by rfl, ?_⟩) ?_
              rotate_left 1
              · intro w; go_simp <;> with_reducible rfl
              simp only [Act.put, List.setIfInBounds_toArray, List.set_cons_zero, List.set_cons_succ]
              refine Reg.take_at (i := 15) (d := 88) (v := ?_) rfl rfl (by kernel_rfl) (by kernel_rfl) (by kernel_rfl) (fun _ _ _ h => h) (Or.inl ⟨by rfl, ?_⟩) ?_
              rotate_left 1
              · intro w; go_simp <;> with_reducible rfl
              simp only [Act.put, List.setIfInBounds_toArray, List.set_cons_zero, List.set_cons_succ]
              refine wpAny_ready (rs := [16]) (by decide +kernel) (by simp) ?_
              refine AllReady.cons rfl (fun KK hK => ?_) AllReady.nil
              go_simp
              refine hK _ _ ?_
              clear hK KK
              obtain ⟨u1, hw⟩ : ∃ v, v = (w9.alloc (.cells #[.int .u8 (IntKind.u8.wrap (IntKind.u32.wrap ((VV : Int) / 16777216))), .int .u8 (IntKind.u8.wrap ((IntKind.u32.wrap ((VV : Int) / 65536)).tmod 256)), .int .u8 (IntKind.u8.wrap ((IntKind.u32.wrap ((VV : Int) / 256)).tmod 256)), .int .u8 (IntKind.u8.wrap ((VV : Int).tmod 256))] 5)).drew := ⟨_, rfl⟩
              rw [← hw]
              have hbu : Below w9.heap.size w9 u1 := by rw [hw]; exact ((Below.refl _ _).alloc (Nat.le_refl _) _).drew
              have hy : Row u1 u1.heap.size (some ⟨w9.heap.size, 0, none⟩) (bv (be4 VV)) := by rw [hw]; exact four_row w9 VV hvl
              clear hw
              refine wpAny_ready (rs := [17]) (by decide +kernel) (by simp) ?_
              refine AllReady.cons rfl (fun KK hK => ?_) AllReady.nil
              have hcv := conv_row hy 4 4 rfl
              go_simp
              refine hK _ _ ?_
              clear hK KK hcv hy
              refine Reg.take_at (i := 18) (d := 91) (v := ?_) rfl rfl (by kernel_rfl) (by kernel_rfl) (by kernel_rfl) (fun _ _ _ h => h) (Or.inl ⟨by rfl, ?_⟩) ?_
              rotate_left 1
              · intro w; go_simp <;> with_reducible rfl
              simp only [Act.put, List.setIfInBounds_toArray, List.set_cons_zero, List.set_cons_succ]
              refine wpAny_done (by kernel_rfl) ?_ _
              have hz10 := at_below hz9 hbu
              have hb10 := Below.step hb9 hbu
              have hown10 := hown9.later hbu
              obtain ⟨y0, y1, y2, y3, y4⟩ := five hz10
              have hrp := rput_good u1 p A' c' hown10.row HSM.out.1 HSM.out.2 HP.out.1 HP.out.2.1
              rw [HP.out.2.2] at hrp
              clear hz9 hb9 hz10 hbu hown9 hown10
              go_wp2_with fail
              refine hrp.mono ?_
              rintro e w11 ⟨rfl, b11⟩
              clear hrp y0 y1 y2 y3 y4
              go_wp2_with fail
              go_ret
              exact ⟨rfl, Below.step hb10 b11⟩
          · rw [if_neg hsum] at hgE
            rw [decide_eq_false hsum] at hcmp
            have HGE := Lib.hid hgE
            clear hgE hsum
            generalize hVV : sum ((Blk.bl B).take 252) = VV at *
            clear hVV
            have hget := get_256 g 0 (cv wc B) ⟨wc.heap.size, 0, none⟩ B.size (cp wc B) (Blk.bl B) s6 (by omega) (by omega) hrx rfl HLEN.out (by rw [show (Blk.bl B).length = B.size from rfl]; exact cp_ge wc B)
            go_wp2_with fail
            refine hget.mono ?_
            rintro e w7 ⟨_, o7, he⟩
            have hb7 : Below W.heap.size W w7 := hb6.trans (o7.below hg hg6)
            rw [HGE.out] at he
            simp only at he
            subst he
            have hz : At (w7.alloc (.cells #[.int .i64 0, .int .i64 0, .int .i64 0, .int .i64 0, .slice none 0 0] 24)) w7.heap.size 24 #[.int .i64 0, .int .i64 0, .int .i64 0, .int .i64 0, .slice none 0 0] := heap_alloc_new w7 _
            have hb8 : Below W.heap.size W (w7.alloc (.cells #[.int .i64 0, .int .i64 0, .int .i64 0, .int .i64 0, .slice none 0 0] 24)) := hb7.alloc hb7.size _
            have hof := HOF.out (w7.alloc (.cells #[.int .i64 0, .int .i64 0, .int .i64 0, .int .i64 0, .slice none 0 0] 24))
            clear hget hcv hrx s6 o7 hb7
            go_wp2_with fail
            refine hof.mono ?_
            rintro e w9 ⟨rfl, b9⟩
            have hz9 := at_below hz b9
            have hb9 := Below.step hb8 b9
            clear hof hz hb8 b9
            go_upto_region 11 with fail
            refine wp_region_any (by kernel_rfl) ?_
            change wpAny _ _ _ _ _ _ _ (World.drew _)
            refine Reg.take_at (i := 0) (d := 73) (v := ?_) rfl rfl (by kernel_rfl) (by kernel_rfl) (by kernel_rfl) (fun _ _ _ h => h) (Or.inl ⟨by rfl, ?_⟩) ?_
            rotate_left 1
            · intro w; go_simp <;> with_reducible rfl
            simp only [Act.put, List.setIfInBounds_toArray, List.set_cons_zero, List.set_cons_succ]
            refine Reg.take_at (i := 1) (d := 74) (v := ?_) rfl rfl (by kernel_rfl) (by kernel_rfl) (by kernel_rfl) (fun _ _ _ h => h) (Or.inl ⟨by rfl, ?_⟩) ?_
            rotate_left 1
            · intro w; go_simp <;> with_reducible rfl
            simp only [Act.put, List.setIfInBounds_toArray, List.set_cons_zero, List.set_cons_succ]
            refine Reg.take_at (i := 2) (d := 75) (v := ?_) rfl rfl (by kernel_rfl) (by kernel_rfl) (by kernel_rfl) (fun _ _ _ h => h) (Or.inl ⟨by rfl, ?_⟩) ?_
            rotate_left 1
            · intro w; go_simp <;> with_reducible rfl
            simp only [Act.put, List.setIfInBounds_toArray, List.set_cons_zero, List.set_cons_succ]
            refine Reg.take_at (i := 3) (d := 76) (v := ?_) rfl rfl (by kernel_rfl) (by kernel_rfl) (by kernel_rfl) (fun _ _ _ h => h) (Or.inl ⟨by rfl, ?_⟩) ?_
            rotate_left 1
            · intro w; go_simp <;> with_reducible rfl
            simp only [Act.put, List.setIfInBounds_toArray, List.set_cons_zero, List.set_cons_succ]
            refine Reg.take_at (i := 4) (d := 77) (v := ?_) rfl rfl (by kernel_rfl) (by kernel_rfl) (by kernel_rfl) (fun _ _ _ h => h) (Or.inl ⟨by rfl, ?_⟩) ?_
            rotate_left 1
            · intro w; go_simp <;> with_reducible rfl
            simp only [Act.put, List.setIfInBounds_toArray, List.set_cons_zero, List.set_cons_succ]
            refine Reg.take_at (i := 5) (d := 78) (v := ?_) rfl rfl (by kernel_rfl) (by kernel_rfl) (by kernel_rfl) (fun _ _ _ h => h) (Or.inl ⟨by rfl, ?_⟩) ?_
            rotate_left 1
            · intro w; go_simp <;> with_reducible rfl
            simp only [Act.put, List.setIfInBounds_toArray, List.set_cons_zero, List.set_cons_succ]
            refine Reg.take_at (i := 6) (d := 79) (v := ?_) rfl rfl (by kernel_rfl) (by kernel_rfl) (by kernel_rfl) (fun _ _ _ h => h) (Or.inl ⟨by rfl, ?_⟩) ?_
            rotate_left 1
            · intro w; go_simp <;> with_reducible rfl
            simp only [Act.put, List.setIfInBounds_toArray, List.set_cons_zero, List.set_cons_succ]
            refine Reg.take_at (i := 7) (d := 80) (v := ?_) rfl rfl (by kernel_rfl) (by kernel_rfl) (by kernel_rfl) (fun _ _ _ h => h) (Or.inl ⟨by rfl, ?_⟩) ?_
            rotate_left 1
            · intro w; go_simp <;> with_reducible rfl
            simp only [Act.put, List.setIfInBounds_toArray, List.set_cons_zero, List.set_cons_succ]
            refine Reg.take_at (i := 8) (d := 81) (v := ?_) rfl rfl (by kernel_rfl) (by kernel_rfl) (by kernel_rfl) (fun _ _ _ h => h) (Or.inl ⟨by rfl, ?_⟩) ?_
            rotate_left 1
            · intro w; go_simp <;> with_reducible rfl
            simp only [Act.put, List.setIfInBounds_toArray, List.set_cons_zero, List.set_cons_succ]
            refine Reg.take_at (i := 9) (d := 82) (v := ?_) rfl rfl (by kernel_rfl) (by kernel_rfl) (by kernel_rfl) (fun _ _ _ h => h) (Or.inl ⟨by rfl, ?_⟩) ?_
            rotate_left 1
            · intro w; go_simp <;> with_reducible rfl
            simp only [Act.put, List.setIfInBounds_toArray, List.set_cons_zero, List.set_cons_succ]
            refine Reg.take_at (i := 10) (d := 83) (v := ?_) rfl rfl (by kernel_rfl) (by kernel_rfl) (by kernel_rfl) (fun _ _ _ h => h) (Or.inl ⟨by rfl, ?_⟩) ?_
            rotate_left 1
            · intro w; go_simp <;> with_reducible rfl
            simp only [Act.put, List.setIfInBounds_toArray, List.set_cons_zero, List.set_cons_succ]
            refine Reg.take_at (i := 11) (d := 84) (v := ?_) rfl rfl (by kernel_rfl) (by kernel_rfl) (by kernel_rfl) (fun _ _ _ h => h) (Or.inl ⟨by rfl, ?_⟩) ?_
            rotate_left 1
            · intro w; go_simp <;> with_reducible rfl
            simp only [Act.put, List.setIfInBounds_toArray, List.set_cons_zero, List.set_cons_succ]
            refine Reg.take_at (i := 12) (d := 85) (v := ?_) rfl rfl (by kernel_rfl) (by kernel_rfl) (by kernel_rfl) (fun _ _ _ h => h) (Or.inl ⟨by rfl, ?_⟩) ?_
            rotate_left 1
            · intro w; go_simp <;> with_reducible rfl
            simp only [Act.put, List.setIfInBounds_toArray, List.set_cons_zero, List.set_cons_succ]
            refine Reg.take_at (i := 13) (d := 86) (v := ?_) rfl rfl (by kernel_rfl) (by kernel_rfl) (by kernel_rfl) (fun _ _ _ h => h) (Or.inl ⟨by rfl, ?_⟩) ?_
            rotate_left 1
            · intro w; go_simp <;> with_reducible rfl
            simp only [Act.put, List.setIfInBounds_toArray, List.set_cons_zero, List.set_cons_succ]
            refine Reg.take_at (i := 14) (d := 87) (v := ?_) rfl rfl (by kernel_rfl) (by kernel_rfl) (by kernel_rfl) (fun _ _ _ h => h) (Or.inl ⟨by rfl, ?_⟩) ?_
            rotate_left 1
            · intro w; go_simp <;> with_reducible rfl
            simp only [Act.put, List.setIfInBounds_toArray, List.set_cons_zero, List.set_cons_succ]
            refine Reg.take_at (i := 15) (d := 88) (v := ?_) rfl rfl (by kernel_rfl) (by kernel_rfl) (by kernel_rfl) (fun _ _ _ h => h) (Or.inl ⟨by rfl, ?_⟩) ?_
            rotate_left 1
            · intro w; go_simp <;> with_reducible rfl
            simp only [Act.put, List.setIfInBounds_toArray, List.set_cons_zero, List.set_cons_succ]
            refine wpAny_ready (rs := [16]) (by decide +kernel) (by simp) ?_
            refine AllReady.cons rfl (fun KK hK => ?_) AllReady.nil
            go_simp
            refine hK _ _ ?_
            clear hK KK
            obtain ⟨u1, hw⟩ : ∃ v, v = (w9.alloc (.cells #[.int .u8 (IntKind.u8.wrap (IntKind.u32.wrap ((VV : Int) / 16777216))), .int .u8 (IntKind.u8.wrap ((IntKind.u32.wrap ((VV : Int) / 65536)).tmod 256)), .int .u8 (IntKind.u8.wrap ((IntKind.u32.wrap ((VV : Int) / 256)).tmod 256)), .int .u8 (IntKind.u8.wrap ((VV : Int).tmod 256))] 5)).drew := ⟨_, rfl⟩
            rw [← hw]
            have hbu : Below w9.heap.size w9 u1 := by rw [hw]; exact ((Below.refl _ _).alloc (Nat.le_refl _) _).drew
            have hy : Row u1 u1.heap.size (some ⟨w9.heap.size, 0, none⟩) (bv (be4 VV)) := by rw [hw]; exact four_row w9 VV hvl
            clear hw
            refine wpAny_ready (rs := [17]) (by decide +kernel) (by simp) ?_
            refine AllReady.cons rfl (fun KK hK => ?_) AllReady.nil
            have hcv := conv_row hy 4 4 rfl
            go_simp
            refine hK _ _ ?_
            clear hK KK hcv hy
            refine Reg.take_at (i := 18) (d := 91) (v := ?_) rfl rfl (by kernel_rfl) (by kernel_rfl) (by kernel_rfl) (fun _ _ _ h => h) (Or.inl ⟨by rfl, ?_⟩) ?_
            rotate_left 1
            · intro w; go_simp <;> with_reducible rfl
            simp only [Act.put, List.setIfInBounds_toArray, List.set_cons_zero, List.set_cons_succ]
            refine wpAny_done (by kernel_rfl) ?_ _
            have hz10 := at_below hz9 hbu
            have hb10 := Below.step hb9 hbu
            obtain ⟨y0, y1, y2, y3, y4⟩ := five hz10
            have hsm := rsame_any u1 ⟨0, 0, 0, 0, []⟩ ⟨0, 0, 0, 0, []⟩ none none 0 0 Row.nil Row.nil (by simp [maxLen])
            rw [same_self] at hsm
            clear hz9 hb9 hz10 hbu
            go_wp2_with fail
            refine hsm.mono ?_
            rintro e w11 ⟨rfl, b11⟩
            clear hsm y0 y1 y2 y3 y4
            go_wp2_with fail
            go_ret
            exact ⟨rfl, Below.step hb10 b11⟩
        · have hne : ((B.size : Int) != 256) = true := by simp; omega
          have HGE := Lib.hid (show gotE (Blk.bl B) = .inl 41 by unfold gotE; rw [if_neg (show ¬ (Blk.bl B).length = 256 from hlen)])
          have hget := get_len g 0 (cv wc B) (some ⟨wc.heap.size, 0, none⟩) B.size (cp wc B) (Blk.bl B) s6 rfl hlen
          clear hlen
          go_wp2_with fail
          refine hget.mono ?_
          rintro e w7 ⟨_, o7, he⟩
          have hb7 : Below W.heap.size W w7 := hb6.trans (o7.below hg hg6)
          rw [HGE.out] at he
          simp only at he
          subst he
          have hsm := rsame_any (w7.alloc (.cells #[.int .i64 0, .int .i64 0, .int .i64 0, .int .i64 0, .slice none 0 0] 24)) ⟨0, 0, 0, 0, []⟩ ⟨0, 0, 0, 0, []⟩ none none 0 0 Row.nil Row.nil (by simp [maxLen])
          rw [same_self] at hsm
          have hb8 : Below W.heap.size W (w7.alloc (.cells #[.int .i64 0, .int .i64 0, .int .i64 0, .int .i64 0, .slice none 0 0] 24)) := hb7.alloc hb7.size _
          clear hget hcv hrx s6 o7 hb7
          go_wp2_with fail
          refine hsm.mono ?_
          rintro e w11 ⟨rfl, b11⟩
          clear hsm
          go_wp2_with fail
          go_ret
          exact ⟨rfl, Below.step hb8 b11⟩
  · have h6' : (600 : Int) < (s.size : Int) := by omega
    go_enter Try.func4, Try.ntmps4
    go_wp2_with fail
    refine (new_g _).mono ?_
    rintro e w1 ⟨g, rfl, hg, hx1, s1, b1⟩
    go_wp2_with fail
    refine (awakeL b1).mono ?_
    rintro e w2 ⟨rfl, b2, b3⟩
    go_wp2_with fail
    refine (awakeL b3).mono ?_
    rintro e w3 ⟨rfl, b4, b5⟩
    go_wp2_with fail
    go_ret
    exact ⟨rfl, b5⟩
end Go.Proofs.Ytlcnnebnocjelaa.PageGets
