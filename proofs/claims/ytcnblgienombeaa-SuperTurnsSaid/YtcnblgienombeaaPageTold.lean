/- The contracts of cellsOf and told: the page that bytes tell. -/
import Derived.Test.YtcnblgienombeaaPageCut
namespace Go.Proofs.Ytcnblgienombeaa.PageTold
open Go.RowKit Base PagePlain PageSmall PageBytes PageLay PagePut PageCut SumMem

theorem el_strs : Elem Try.prog 35 9 16 := elem_mk (z := .string ⟨#[]⟩) Try.underlying35 (by kernel_rfl) rfl
def tcells (l : List UInt8) : Option (List ByteArray) := if 236 < 2 * gt l 1 then none else cuts l (gt l 1) 14 252
theorem own_set {w : World} {base c : Nat} {e : TypeId} {A : Option Addr} {xs : List Value} (h : Own w base e A c xs) (p : Addr) (hp : p.block < base) (u : Value) : Own (w.setCell p u) base e A c xs :=
  World.ownsRow.kept h (row := some p.block) ⟨rfl, rfl, rfl, by simp [World.setCell], fun i _ hne => Below.heap_setCell w p u i (by rintro rfl; exact hne rfl)⟩ (by
    cases hq : (Value.slice A xs.length c).ownBlock with
    | none => exact .inl rfl
    | some a => exact .inr (fun e => by have := (h.block a hq).1; injection e with e; omega))
/-- what stands between two rounds of cellsOf -/
structure CRel (W : World) (B x y z : Nat) (A : Option Addr) (m c : Nat) (l : List UInt8) (k : Nat) (cs : List ByteArray) (A' : Option Addr) (c' e : Nat) (w : World) : Prop where
  own : Own w B 9 A' c' (strs cs)
  clo : Clo w x y z A m c (14 + 2 * k) e
  len : cs.length = k
  le : e ≤ 256
  cut : cuts l (gt l 1) 14 252 = (cuts l (gt l 1 - k) (14 + 2 * k) e).map (cs ++ ·)
  bl : Below W.heap.size W w
  sz : B ≤ w.heap.size
/-- what cellsOf tells -/
def CellsPost (W : World) (l : List UInt8) (e : Ending) (w' : World) : Prop :=
  Below W.heap.size W w' ∧ match tcells l with
  | none => e = .returned (.tuple #[.slice none 0 0, .bool false])
  | some cs => ∃ A' c', e = .returned (.tuple #[.slice A' cs.length c', .bool true]) ∧ Own w' W.heap.size 9 A' c' (strs cs)
theorem own_more {w : World} {base base' c : Nat} {e : TypeId} {A : Option Addr} {xs : List Value} (h : Own w base e A c xs) (hb : base' ≤ base) : Own w base' e A c xs := by
  unfold Own at *
  rcases h with ⟨h1, h2⟩
  refine ⟨h1, ?_⟩
  rcases h2 with h2 | ⟨g, cap, cur, a1, a2, a3⟩
  · exact .inl h2
  · exact .inr ⟨g, cap, cur, a1, Nat.le_trans hb a2, a3⟩

set_option maxRecDepth 100000 in
set_option maxHeartbeats 3200000 in
theorem cells_any (w : World) (A : Option Addr) (l : List UInt8) (c m : Nat) (hm : m = l.length) (hrow : Row w w.heap.size A (bv l)) (hl : l.length = 256) (hc : l.length ≤ c) :
    Calls Try.prog 44 #[.slice A m c] w (CellsPost w l) := by
  subst hm
  obtain ⟨ad, hA, hb0, c1⟩ := hrow.get 1 (by rw [bv_len]; omega)
  subst hA
  simp only [bv, List.getElem_map] at c1
  rw [← gt_get l 1 (by omega)] at c1
  have HTC := Lib.hid (show tcells l = if 236 < 2 * gt l 1 then none else cuts l (gt l 1) 14 252 from rfl)
  have g1 := gt_lt l 1
  generalize hn : gt l 1 = n at c1 HTC g1
  have HN := Lib.hid hn
  clear hn
  have HL := Lib.hid hl
  have i1 : (1 : Int) < (l.length : Int) := by omega
  have c2 : w.cell? ⟨ad.block, ad.off + 1, none⟩ = some (.int .u8 (n : Int)) := by rw [← c1]; simp [Addr.add]
  clear hl
  by_cases hbig : 236 < 2 * n
  · have hb : (236 : Int) < (n : Int) * 2 := by omega
    have hn : tcells l = none := by rw [HTC.out, if_pos hbig]
    have HNN := Lib.hid hn
    clear hn
    go_enter Try.func44, Try.ntmps44
    go_wp2_with fail
    go_ret2
    refine ⟨Below.refl _ _, ?_⟩
    rw [HNN.out]
    rfl
  · have hnb : ¬ (236 : Int) < (n : Int) * 2 := by omega
    have hn : tcells l = cuts l (gt l 1) 14 252 := by rw [HTC.out, if_neg hbig, HN.out]
    have HNN := Lib.hid hn
    clear hn HTC
    go_enter Try.func44, Try.ntmps44
    go_wp2_with fail
    refine (cutter_any w (some ad) l.length c).mono ?_
    rintro e w1 ⟨x, y, z, rfl, hclo, hx, hy, hz, hb1⟩
    have hxw := At.lt hclo.a
    have hyw := At.lt hclo.b
    have hzw := At.lt hclo.c
    have R0 : CRel w w1.heap.size x y z (some ad) l.length c l 0 [] none 0 252 w1 := ⟨Own.nil _ _ _, hclo, rfl, by omega, by simp, hb1, Nat.le_refl _⟩
    have hBw := hb1.size
    clear hclo hb1 c1 c2
    generalize w1.heap.size = B at *
    go_wp2_with fail
    go_loopw [6, 19] (fun v i wr => ∃ (k : Nat) (cs : List ByteArray) (A' : Option Addr) (c' e : Nat), k ≤ n ∧ i = .int .i64 k ∧ v = .slice A' cs.length c' ∧ CRel w B x y z (some ad) l.length c l k cs A' c' e wr) (fun _ i _ => n - (intOf i).toNat)
    case atStart => exact ⟨0, [], none, 0, 252, by omega, rfl, rfl, R0⟩
    case round =>
      clear R0
      obtain ⟨k, cs, A', c', e, hk, rfl, rfl, hrel⟩ := hrel
      by_cases hlt : k < n
      · have hrw : Row wr w.heap.size (some ad) (bv l) := hrow.below hrel.bl
        by_cases hf : gt l (14 + 2 * k) + gt l (14 + 2 * k + 1) = e
        · have hsub : ((l.drop (gt l (14 + 2 * k))).take (gt l (14 + 2 * k + 1))).length = gt l (14 + 2 * k + 1) := by
            rw [List.length_take, List.length_drop, HL.out]; have := hrel.le; omega
          have hconvF : ∀ (w2 : World) (A2 : Option Addr) (cp : Nat), Row w2 w.heap.size A2 (bv ((l.drop (gt l (14 + 2 * k))).take (gt l (14 + 2 * k + 1)))) →
              (convert 27 9 (.slice A2 (gt l (14 + 2 * k + 1)) cp)).run Try.prog w2 = .ok (.string (sub l (gt l (14 + 2 * k)) (gt l (14 + 2 * k + 1)))) w2 := fun w2 A2 cp hr => by
            have := conv_bytes (P := Try.prog) Try.underlying27 Try.underlying5 Try.underlying9 cp hr
            rw [hsub] at this
            exact this
          have HCV := Lib.hid hconvF
          have HF := Lib.hid hf
          have HCUT := Lib.hid (show cuts l (gt l 1) 14 252 = (cuts l (gt l 1 - (k + 1)) (14 + 2 * (k + 1)) (gt l (14 + 2 * k))).map ((cs ++ [sub l (gt l (14 + 2 * k)) (gt l (14 + 2 * k + 1))]) ++ ·) by
            rw [hrel.cut, show gt l 1 - k = (gt l 1 - (k + 1)) + 1 by rw [HN.out]; omega]
            simp only [cuts]
            rw [if_pos hf, Option.map_map]
            congr 1
            funext t
            simp)
          have hle : gt l (14 + 2 * k) ≤ 256 := Nat.le_of_lt (gt_lt l _)
          clear hconvF hsub
          go_wp2_with fail
          refine (next_yes wr w.heap.size x y z (some ad) l c (14 + 2 * k) e _ hrel.clo rfl hrw (by rw [HL.out]; omega) (by rw [HL.out]; exact hrel.le) hc (by rw [HL.out]; omega) hf).mono ?_
          rintro ex w2 ⟨A2, cp, rfl, hr2, nn, hw2⟩
          have hclo2 : Clo w2 x y z (some ad) l.length c (14 + 2 * (k + 1)) (gt l (14 + 2 * k)) := by
            rw [hw2, show 14 + 2 * (k + 1) = 14 + 2 * k + 2 by omega]
            exact (hrel.clo.set (14 + 2 * k + 2) (gt l (14 + 2 * k))).drewN nn
          have hown2 : Own w2 B 9 A' c' (strs cs) := by rw [hw2]; exact own_set (own_set hrel.own ⟨y, 0, none⟩ hyw _) ⟨z, 0, none⟩ hzw _
          have hbl2 : Below w.heap.size w w2 := by rw [hw2]; exact (Below.setCell (p := ⟨z, 0, none⟩) (Below.setCell (p := ⟨y, 0, none⟩) hrel.bl hy _) hz _).trans (below_drewN _ _ nn)
          have hrow2 : Row w2 w.heap.size A2 (bv ((l.drop (gt l (14 + 2 * k))).take (gt l (14 + 2 * k + 1)))) := by
            rw [hw2]
            exact (hr2.below (Below.setCell (p := ⟨z, 0, none⟩) (Below.setCell (p := ⟨y, 0, none⟩) (Below.refl w.heap.size wr) hy _) hz _)).drewN nn
          have hsz2 : B ≤ w2.heap.size := by rw [hw2]; simpa [World.setCell] using hrel.sz
          have hconv := HCV.out w2 A2 cp hrow2
          have HLEN := Lib.hid hrel.len
          have hlen : cs.length ≤ 200 := by have := hrel.len; omega
          clear hrel hr2 hw2 hrow2 hf hrw HCV
          generalize gt l (14 + 2 * k + 1) = g2 at *
          generalize gt l (14 + 2 * k) = g1 at *
          generalize sub l g1 g2 = q at *
          have HC2 := Lib.hid hclo2
          clear hclo2
          go_wp2_with (at_builtin; refine wpList_append_row rfl (.tmp 28) (.tmp 31) 35 rfl el_strs (A := A') (c := c') (n := cs.length) (m := 1) (xs := strs cs) rfl (by simp [strs]) (hown2.alloc _) rfl rfl (row_of_block (heap_alloc_new w2 _)) (by simp [Value.oneCell']) (by simp [strs, maxLen]; omega) (by simp [strs]; omega) (by simp; omega) ?_; intro A3 c3 w3 hown3 hg3)
          go_roundw
          case rel =>
            have hb3 : Below w.heap.size w w3 := (hown2.alloc _).below (hbl2.alloc hbl2.size _) hg3 hBw (by simp; omega)
            refine ⟨k + 1, cs ++ [q], A3, c3, g1, by omega, by go_num, by simp, ?_, ?_, by simp [HLEN.out], hle, HCUT.out, hb3, ?_⟩
            · have := hown3
              simpa [strs] using this
            · exact (HC2.out.below ((Below.refl _ _).alloc (Nat.le_refl _) _)).grown hg3 fun k hk => by
                have := (hown2.block k hk).1
                omega
            · have := hg3.size
              simp at this
              omega
          case measure => simp [intOf]; omega
        · have hnone : tcells l = none := by
            rw [HNN.out, hrel.cut, show gt l 1 - k = (gt l 1 - (k + 1)) + 1 by rw [HN.out]; omega]
            simp only [cuts]
            rw [if_neg hf]
            rfl
          have HNO := Lib.hid hnone
          have hbl := hrel.bl
          clear hnone
          go_wp2_with fail
          refine (next_no wr w.heap.size x y z (some ad) l c (14 + 2 * k) e _ hrel.clo rfl hrw (by rw [HL.out]; omega) (by rw [HL.out]; omega) hf).mono ?_
          rintro ex w2 ⟨rfl, nn, rfl⟩
          clear hrel hrw hf
          go_wp2_with fail
          go_ret2
          refine ⟨hbl.trans (below_drewN _ _ nn), ?_⟩
          rw [HNO.out]
          rfl
      · obtain rfl : k = n := by omega
        have hsome : tcells l = some cs := by
          rw [HNN.out, hrel.cut, HN.out, Nat.sub_self]
          simp [cuts]
        have HSO := Lib.hid hsome
        have hbl := hrel.bl
        have HOW := Lib.hid (own_more hrel.own hBw)
        clear hsome hrel
        go_wp2_with fail
        go_ret2
        refine ⟨hbl, ?_⟩
        rw [HSO.out]
        exact ⟨_, _, rfl, HOW.out⟩
end Go.Proofs.Ytcnblgienombeaa.PageTold
