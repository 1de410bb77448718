/- The walk of SumXor. -/
import Derived.Test.YtefnabceaaghaaaSumBlk
import Derived.Deep.DeepCutAuto
namespace Go.Proofs.Ytefnabceaaghaaa.SumXor
open Go.RowKit SumPlain Base SumLeft SumMem SumFill SumOf SumAwake SumLaws SumAlone SumBlk

theorem ready_set {w : World} {g x k : Nat} {n : Int} {u : Value} (h : Ready w g n) (hg : g ≠ x) : Ready (w.setCell ⟨x, k, none⟩ u) g n := by
  have e : (w.setCell ⟨x, k, none⟩ u).heap[g]? = w.heap[g]? := Below.heap_setCell w ⟨x, k, none⟩ u g hg
  rcases h with ⟨T, cs, h, r⟩ | ⟨cs, h, r⟩
  · exact .inl ⟨T, cs, e.trans h, r⟩
  · exact .inr ⟨cs, e.trans h, r⟩
theorem _root_.Go.Proofs.Ytefnabceaaghaaa.SumFill.Ready.drew {w : World} {g : Nat} {n : Int} (h : Ready w g n) : Ready w.drew g n := h
/-- the first k bytes turned -/
def mix (a b : List UInt8) (k : Nat) : List UInt8 := List.zipWith (· ^^^ ·) (a.take k) (b.take k) ++ a.drop k
theorem mix_len (a b : List UInt8) (k : Nat) (h : a.length = b.length) (hk : k ≤ a.length) : (mix a b k).length = a.length := by simp [mix, h]; omega
theorem mix_zero (a b : List UInt8) : mix a b 0 = a := by simp [mix]
theorem mix_all (a b : List UInt8) (h : a.length = b.length) : mix a b a.length = List.zipWith (· ^^^ ·) a b := by
  unfold mix
  rw [List.take_of_length_le (Nat.le_refl _), List.take_of_length_le (by omega), List.drop_of_length_le (Nat.le_refl _), List.append_nil]
theorem mix_get (a b : List UInt8) (k : Nat) (h : a.length = b.length) (hk : k < a.length) : (mix a b k)[k]'(by rw [mix_len a b k h (by omega)]; exact hk) = a[k] := by
  simp only [mix]
  rw [List.getElem_append_right (by simp [h]; omega)]
  simp [h]
  congr 1
  omega
theorem mix_succ (a b : List UInt8) (k : Nat) (h : a.length = b.length) (hk : k < a.length) : (mix a b k).set k (a[k] ^^^ b[k]'(by omega)) = mix a b (k + 1) := by
  have hl : (List.zipWith (· ^^^ ·) (a.take k) (b.take k)).length = k := by simp [h]; omega
  unfold mix
  rw [List.set_append_right _ _ (by omega), hl, Nat.sub_self, List.take_succ_eq_append_getElem hk, List.take_succ_eq_append_getElem (show k < b.length by omega), List.zipWith_append (by simp [h])]
  have hd : (a.drop k).set 0 (a[k] ^^^ b[k]'(by omega)) = (a[k] ^^^ b[k]'(by omega)) :: a.drop (k + 1) := by
    rw [List.drop_eq_getElem_cons hk]; rfl
  rw [hd]
  simp
structure XRel (W : World) (g : Nat) (x y z : Nat) (la lb : List UInt8) (wr : World) : Prop where
  r : Ready wr g 0
  b : Below W.heap.size W wr
  xg : x ≠ g
  yg : y ≠ g
  zg : z ≠ g
  xy : x ≠ y
  xz : x ≠ z
  bx : Blk8 wr x la
  by_ : Blk8 wr y lb
  bz : Blk8 wr z (List.replicate la.length 0)
  xW : W.heap.size ≤ x
theorem xrel_mk {W w w' : World} {g x y z : Nat} {la lb : List UInt8} {n : Nat} (hr : Ready w g 0) (hb : Below W.heap.size W w) (hg : g < w.heap.size) (hw : Below w.heap.size w w') (hx : w.heap.size ≤ x) (hy : w.heap.size ≤ y) (hz : w.heap.size ≤ z) (xy : x ≠ y) (xz : x ≠ z) (bx : Blk8 w' x la) (by_ : Blk8 w' y lb)
    (bz : Blk8 w' z (List.replicate n 0)) (hn : n = la.length) : XRel W g x y z la lb w' :=
  ⟨hr.below hw, Below.step hb hw, by omega, by omega, by omega, xy, xz, bx, by_, by subst hn; exact bz, by have := hb.size; omega⟩
/-- a step that makes one block of bytes -/
structure NewB (w w' : World) (l : List UInt8) : Prop where
  b : Below w.heap.size w w'
  z : w'.heap.size = w.heap.size + 1
  k : Blk8 w' w.heap.size l
theorem newC (w : World) (s : ByteArray) : NewB w (cv w s) (bl s) := ⟨cv_below w s, cv_size w s, cv_blk w s⟩
theorem newM (w : World) (n : Nat) : NewB w (mk w n) (List.replicate n 0) := ⟨mk_below w n, mk_size w n, mk_blk w n⟩
theorem three {w0 w1 w2 w3 : World} {l1 l2 l3 : List UInt8} (h1 : NewB w0 w1 l1) (h2 : NewB w1 w2 l2) (h3 : NewB w2 w3 l3) :
    Below w0.heap.size w0 w3 ∧ Blk8 w3 w0.heap.size l1 ∧ Blk8 w3 w1.heap.size l2 ∧ Blk8 w3 w2.heap.size l3 ∧ w1.heap.size = w0.heap.size + 1 ∧ w2.heap.size = w0.heap.size + 2 :=
  ⟨Below.step (Below.step h1.b h2.b) h3.b, (h1.k.below h2.b).below h3.b, h2.k.below h3.b, h3.k, h1.z, by rw [h2.z, h1.z]⟩
theorem x0 {W w : World} {g n : Nat} {a q : ByteArray} (hr : Ready w g 0) (hb : Below W.heap.size W w) (hg : g < w.heap.size) (hn : n = (bl a).length) : XRel W g w.heap.size (cv w a).heap.size (cv (cv w a) q).heap.size (bl a) (bl q) (mk (cv (cv w a) q) n) := by
  obtain ⟨t1, t2, t3, t4, t5, t6⟩ := three (newC w a) (newC (cv w a) q) (newM (cv (cv w a) q) n)
  exact xrel_mk hr hb hg t1 (by omega) (by omega) (by omega) (by omega) (by omega) t2 t3 t4 hn
theorem x1 {W w : World} {g n : Nat} {a q : ByteArray} (hr : Ready w g 0) (hb : Below W.heap.size W w) (hg : g < w.heap.size) (hn : n = (bl a).length) : XRel W g w.heap.size (mk (cv w a) n).heap.size (cv w a).heap.size (bl a) (bl q) (cv (mk (cv w a) n) q) := by
  obtain ⟨t1, t2, t3, t4, t5, t6⟩ := three (newC w a) (newM (cv w a) n) (newC (mk (cv w a) n) q)
  exact xrel_mk hr hb hg t1 (by omega) (by omega) (by omega) (by omega) (by omega) t2 t4 t3 hn
theorem x2 {W w : World} {g n : Nat} {a q : ByteArray} (hr : Ready w g 0) (hb : Below W.heap.size W w) (hg : g < w.heap.size) (hn : n = (bl a).length) : XRel W g (cv w q).heap.size w.heap.size (cv (cv w q) a).heap.size (bl a) (bl q) (mk (cv (cv w q) a) n) := by
  obtain ⟨t1, t2, t3, t4, t5, t6⟩ := three (newC w q) (newC (cv w q) a) (newM (cv (cv w q) a) n)
  exact xrel_mk hr hb hg t1 (by omega) (by omega) (by omega) (by omega) (by omega) t3 t2 t4 hn
theorem x3 {W w : World} {g n : Nat} {a q : ByteArray} (hr : Ready w g 0) (hb : Below W.heap.size W w) (hg : g < w.heap.size) (hn : n = (bl a).length) : XRel W g (mk (cv w q) n).heap.size w.heap.size (cv w q).heap.size (bl a) (bl q) (cv (mk (cv w q) n) a) := by
  obtain ⟨t1, t2, t3, t4, t5, t6⟩ := three (newC w q) (newM (cv w q) n) (newC (mk (cv w q) n) a)
  exact xrel_mk hr hb hg t1 (by omega) (by omega) (by omega) (by omega) (by omega) t4 t2 t3 hn
theorem x4 {W w : World} {g n : Nat} {a q : ByteArray} (hr : Ready w g 0) (hb : Below W.heap.size W w) (hg : g < w.heap.size) (hn : n = (bl a).length) : XRel W g (mk w n).heap.size (cv (mk w n) a).heap.size w.heap.size (bl a) (bl q) (cv (cv (mk w n) a) q) := by
  obtain ⟨t1, t2, t3, t4, t5, t6⟩ := three (newM w n) (newC (mk w n) a) (newC (cv (mk w n) a) q)
  exact xrel_mk hr hb hg t1 (by omega) (by omega) (by omega) (by omega) (by omega) t3 t4 t2 hn
theorem x5 {W w : World} {g n : Nat} {a q : ByteArray} (hr : Ready w g 0) (hb : Below W.heap.size W w) (hg : g < w.heap.size) (hn : n = (bl a).length) : XRel W g (cv (mk w n) q).heap.size (mk w n).heap.size w.heap.size (bl a) (bl q) (cv (cv (mk w n) q) a) := by
  obtain ⟨t1, t2, t3, t4, t5, t6⟩ := three (newM w n) (newC (mk w n) q) (newC (cv (mk w n) q) a)
  exact xrel_mk hr hb hg t1 (by omega) (by omega) (by omega) (by omega) (by omega) t4 t3 t2 hn
theorem bl_extract (b : ByteArray) (n : Nat) (h : n ≤ b.size) : (b.extract 0 n).size = n ∧ (bl (b.extract 0 n)).length = n := by
  have : (b.extract 0 n).size = n := by simp; omega
  exact ⟨this, this⟩
theorem xor_end (a b : List UInt8) (h : a.length = b.length) : (bits .xor .u32 ((sum (List.zipWith (· ^^^ ·) a b) : Nat) : Int) ((sum a : Nat) : Int) == bits .xor .u32 ((sum b : Nat) : Int) ((sum (List.replicate a.length 0) : Nat) : Int)) = true := by
  have e : List.zipWith (· ^^^ ·) (List.replicate a.length 0) b = b := by
    apply List.ext_getElem
    · simp [h]
    · intro i h1 h2; simp
  have h1 := sum_xor a b h
  have h2 := sum_xor (List.replicate a.length 0) b (by simp [h])
  rw [e] at h2
  rw [u32_xor_nat _ _ (sum_lt _) (sum_lt _), u32_xor_nat _ _ (sum_lt _) (sum_lt _), h1, h2]
  simp

set_option maxRecDepth 100000 in
set_option maxHeartbeats 3200000 in
theorem SumXor_walk (a b : ByteArray) (W : World) (ha : a.size ≤ maxLen) (hb : b.size ≤ maxLen) :
    Calls Try.prog 6 #[.string a, .string b] W (Law W) := by
  unfold maxLen at ha hb
  have hnot : ∀ (x : Bool) (w : World), (Op.unary .not (.bool x)).run Try.prog w = .ok (.bool (!x)) w := fun _ _ => rfl
  by_cases hl : a.size ≤ 500 ∧ a.size ≤ b.size
  · obtain ⟨hl1, hl2⟩ := hl
    go_enter Try.func6, Try.ntmps6
    go_wp2_with fail
    refine (new_g _).mono ?_
    rintro e w1 ⟨g, rfl, hg, hx1, s1, b1⟩
    go_wp2_with fail
    refine (awakeL b1).mono ?_
    rintro e w2 ⟨rfl, b2, b3⟩
    have s2 := s1.below b2
    have hx2 : g < w2.heap.size := Nat.lt_of_lt_of_le hx1 b2.size
    clear s1 b1 b2 hx1
    have hcv := cv_run
    have hmk := fun w => mk_run w a.size (by omega)
    have HE := Lib.hid (bl_extract b a.size hl2)
    have he : (b.extract 0 a.size).size = a.size := HE.out.1
    have s2d : Ready w2.drew g 0 := s2
    have b3d : Below W.heap.size W w2.drew := b3.drew
    go_upto_region 4 with fail
    go_cut [6, 7, 8] (fun s6 s7 s8 wx => ∃ x y z cx cy : Nat, s6 = .slice (some ⟨x, 0, none⟩) a.size cx ∧ s7 = .slice (some ⟨y, 0, none⟩) a.size cy ∧ s8 = .slice (some ⟨z, 0, none⟩) a.size a.size ∧ XRel W g x y z (bl a) (bl (b.extract 0 a.size)) wx)
    case first =>
      go_region
      · go_wp2_with fail; go_meet; exact ⟨_, _, _, _, _, rfl, rfl, rfl, x0 (w := w2.drew) (a := a) (q := b.extract 0 a.size) (n := a.size) s2d b3d hx2 rfl⟩
      · go_wp2_with fail; go_meet; exact ⟨_, _, _, _, _, rfl, rfl, rfl, x1 (w := w2.drew) (a := a) (q := b.extract 0 a.size) (n := a.size) s2d b3d hx2 rfl⟩
      · go_wp2_with fail; go_meet; exact ⟨_, _, _, _, _, rfl, rfl, rfl, x2 (w := w2.drew) (a := a) (q := b.extract 0 a.size) (n := a.size) s2d b3d hx2 rfl⟩
      · go_wp2_with fail; go_meet; exact ⟨_, _, _, _, _, rfl, rfl, rfl, x3 (w := w2.drew) (a := a) (q := b.extract 0 a.size) (n := a.size) s2d b3d hx2 rfl⟩
      · go_wp2_with fail; go_meet; exact ⟨_, _, _, _, _, rfl, rfl, rfl, x4 (w := w2.drew) (a := a) (q := b.extract 0 a.size) (n := a.size) s2d b3d hx2 rfl⟩
      · go_wp2_with fail; go_meet; exact ⟨_, _, _, _, _, rfl, rfl, rfl, x5 (w := w2.drew) (a := a) (q := b.extract 0 a.size) (n := a.size) s2d b3d hx2 rfl⟩
    case rest =>
      obtain ⟨x, y, z, cx, cy, rfl, rfl, rfl, hxr⟩ := hcut
      clear hmk s2d b3d s2 b3 hx2
      have HCV := Lib.hid hcv
      clear hcv
      have hlq : (bl a).length = (bl (b.extract 0 a.size)).length := HE.out.2.symm
      have HLQ := Lib.hid hlq
      clear hlq he HE
      generalize b.extract 0 a.size = q at *
      have hxr0 : XRel W g x y z (mix (bl a) (bl q) 0) (bl q) wc := by rw [mix_zero]; exact hxr
      clear hxr
      go_wp2_with fail
      go_loopw [9] (fun i wr => ∃ k : Nat, k ≤ a.size ∧ i = .int .i64 k ∧ XRel W g x y z (mix (bl a) (bl q) k) (bl q) wr) (fun i _ => a.size - (intOf i).toNat)
      case atStart => exact ⟨0, by omega, rfl, hxr0⟩
      case round =>
        clear hxr0
        obtain ⟨k, hk, rfl, hrel⟩ := hrel
        have hml := mix_len (bl a) (bl q) k HLQ.out hk
        by_cases hlt : k < a.size
        · have c1 := hrel.bx.cell k (by rw [hml]; exact hlt)
          have c2 := hrel.by_.cell k (by rw [← HLQ.out]; exact hlt)
          have f1 := hrel.bx.frozen k (by rw [hml]; exact hlt)
          rw [mix_get (bl a) (bl q) k HLQ.out hlt] at c1
          have HM := Lib.hid (mix_succ (bl a) (bl q) k HLQ.out hlt)
          have HSet := Lib.hid (hrel.bx.set k (by rw [hml]; exact hlt) ((bl a)[k]'hlt ^^^ (bl q)[k]'(by rw [← HLQ.out]; exact hlt)))
          have HML := Lib.hid hml
          clear hml
          generalize (bl a)[k]'hlt = va at *
          generalize (bl q)[k]'(by rw [← HLQ.out]; exact hlt) = vq at *
          have HX := Lib.hid (show bits .xor .u8 (va.toNat : Int) (vq.toNat : Int) = ((va ^^^ vq).toNat : Int) by
            rw [u8_xor_nat _ _ (UInt8.toNat_lt va) (UInt8.toNat_lt vq), UInt8.toNat_xor])
          go_wp2_with fail
          go_region
          clear c1 c2 f1
          go_wp2_with fail
          go_roundw
          case rel =>
            refine ⟨k + 1, by omega, by go_num, ?_⟩
            rw [← HM.out, HX.out]
            exact ⟨(ready_set hrel.r (fun e => hrel.xg e.symm)).drew, (hrel.b.setCell (by have := hrel.xW; exact this) _).drew, hrel.xg, hrel.yg, hrel.zg, hrel.xy, hrel.xz, HSet.out.drew, (hrel.by_.far (fun e => hrel.xy e.symm) _).drew, by rw [List.length_set]; exact (hrel.bz.far (fun e => hrel.xz e.symm) _).drew, hrel.xW⟩
          case measure => simp [intOf]; omega
        · have hke : k = a.size := by omega
          have hfin : XRel W g x y z (List.zipWith (· ^^^ ·) (bl a) (bl q)) (bl q) wr := by
            rw [hke] at hrel
            have := mix_all (bl a) (bl q) HLQ.out
            rw [bl_len] at this
            rw [this] at hrel
            exact hrel
          clear hrel hke hml
          have hzl : (List.zipWith (· ^^^ ·) (bl a) (bl q)).length = a.size := by rw [List.length_zipWith, ← HLQ.out, bl_len]; omega
          have HZ := Lib.hid hzl
          clear hzl
          have HXE := Lib.hid (xor_end (bl a) (bl q) HLQ.out)
          go_wp2_with fail
          refine (of_any g 0 _ _ a.size cx (List.zipWith (· ^^^ ·) (bl a) (bl q)) hfin.r (by omega) (by omega) (by rw [HZ.out]; omega) HZ.out.symm (hfin.bx.rowX hfin.xg) (Ready.lt hfin.r)).mono ?_
          rintro e w3 ⟨rfl, d3, o3⟩
          rw [HZ.out] at d3
          have by3 := hfin.by_.only o3 hfin.yg
          have bz3 := hfin.bz.only o3 hfin.zg
          rw [HZ.out] at bz3
          have hb3 : Below W.heap.size W w3 := hfin.b.trans (o3.below hg (Ready.lt hfin.r))
          have hyg := hfin.yg
          have hzg := hfin.zg
          clear hfin o3
          have hcv := HCV.out w3 a
          go_wp2_with fail
          refine (of_str g (0 + a.size) _ _ a (cp w3 a) (ready_of (d3.below (cv_below w3 a))) (by omega) (by omega) (by omega) ((cv_blk w3 a).rowX (by have := d3.lt; omega))).mono ?_
          rintro e w4 ⟨rfl, d4, o4⟩
          have hlt4 : g < (cv w3 a).heap.size := Nat.lt_of_lt_of_le d3.lt (cv_below w3 a).size
          have by4 := (by3.below (cv_below w3 a)).only o4 hyg
          have bz4 := (bz3.below (cv_below w3 a)).only o4 hzg
          have hb4 : Below W.heap.size W w4 := (Below.step hb3 (cv_below w3 a)).trans (o4.below hg hlt4)
          clear hcv d3 by3 bz3 hb3 o4
          go_wp2_with fail
          refine (of_any g _ _ _ a.size cy (bl q) (ready_of d4) (by omega) (by omega) (by rw [← HLQ.out, bl_len]; omega) HLQ.out (by4.rowX hyg) d4.lt).mono ?_
          rintro e w5 ⟨rfl, d5, o5⟩
          rw [← HLQ.out, bl_len] at d5
          have bz5 := bz4.only o5 hzg
          have hb5 : Below W.heap.size W w5 := hb4.trans (o5.below hg d4.lt)
          clear d4 by4 bz4 hb4 o5
          go_wp2_with fail
          refine (of_any g _ _ _ a.size a.size (List.replicate a.size 0) (ready_of d5) (by omega) (by omega) (by simp; omega) (by simp) (bz5.rowX hzg) d5.lt).mono ?_
          rintro e w6 ⟨rfl, d6, o6⟩
          have hb6 : Below W.heap.size W w6 := hb5.trans (o6.below hg d5.lt)
          clear d5 bz5 hb5 o6 d6
          go_wp2_with fail
          go_ret
          exact ⟨ret_bool HXE.out, hb6⟩
  · have hcase : ¬ a.size ≤ 500 ∨ (a.size ≤ 500 ∧ ¬ a.size ≤ b.size) := by omega
    clear hl
    rcases hcase with hl | ⟨hl1, hl⟩
    · have hl' : (500 : Int) < (a.size : Int) := by omega
      go_enter Try.func6, Try.ntmps6
      go_wp2_with fail
      refine (new_g _).mono ?_
      rintro e w1 ⟨g1, rfl, hg1, hx1, s1, b1⟩
      go_wp2_with fail
      refine (awakeL b1).mono ?_
      rintro e w3 ⟨rfl, b3, b4⟩
      go_wp2_with fail
      refine (awakeL b4).mono ?_
      rintro e w4 ⟨rfl, b5, b6⟩
      go_wp2_with fail
      go_ret
      exact ⟨rfl, b6⟩
    · have hl' : b.size < a.size := by omega
      go_enter Try.func6, Try.ntmps6
      go_wp2_with fail
      refine (new_g _).mono ?_
      rintro e w1 ⟨g1, rfl, hg1, hx1, s1, b1⟩
      go_wp2_with fail
      refine (awakeL b1).mono ?_
      rintro e w3 ⟨rfl, b3, b4⟩
      go_wp2_with fail
      refine (awakeL b4).mono ?_
      rintro e w4 ⟨rfl, b5, b6⟩
      go_wp2_with fail
      go_ret
      exact ⟨rfl, b6⟩
end Go.Proofs.Ytefnabceaaghaaa.SumXor
