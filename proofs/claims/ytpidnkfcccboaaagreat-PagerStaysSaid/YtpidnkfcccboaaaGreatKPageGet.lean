/- PageCut, PageTold, PageTold2, PageIs, PageGet. -/
import Derived.Test.YtpidnkfcccboaaaGreatKPagePut
import Derived.Test.YtpidnkfcccboaaaGreatKStr
import Derived.BigQuiet
import Derived.Deep.QuietTactic
import Derived.Laws.ResultCell
import Derived.RegionTactic
namespace Go.Proofs.YtpidnkfcccboaaaGreat.PageCut
open Go.RowKit Base PagePlain PageSmall PageBytes PageLay PagePut SumMem

/-- what the closure holds: the bytes, where the table stands, where the next cell must end -/
structure Clo (w : World) (x y z : Nat) (A : Option Addr) (m c s e : Nat) : Prop where
  a : At w x 96 #[.slice A m c]
  b : At w y 3 #[.int .i64 (s : Int)]
  c : At w z 3 #[.int .i64 (e : Int)]
  xy : x ≠ y
  xz : x ≠ z
  yz : y ≠ z
theorem at_far {w : World} {g : Nat} {t : TypeId} {cs : Array Value} (h : At w g t cs) {p : Addr} (hp : g ≠ p.block) (u : Value) : At (w.setCell p u) g t cs := (Below.heap_setCell w p u g hp).trans h
theorem Clo.set {w : World} {x y z : Nat} {A : Option Addr} {m c s e : Nat} (h : Clo w x y z A m c s e) (s' e' : Nat) : Clo ((w.setCell ⟨y, 0, none⟩ (.int .i64 (s' : Int))).setCell ⟨z, 0, none⟩ (.int .i64 (e' : Int))) x y z A m c s' e' :=
  ⟨at_far (at_far h.a h.xy _) h.xz _, at_far (by simpa using h.b.set 0 (.int .i64 (s' : Int))) h.yz _, by simpa using (at_far h.c h.yz.symm (.int .i64 (s' : Int)) (p := ⟨y, 0, none⟩)).set 0 (.int .i64 (e' : Int)), h.xy, h.xz, h.yz⟩
theorem Clo.drewN {w : World} {x y z : Nat} {A : Option Addr} {m c s e : Nat} (h : Clo w x y z A m c s e) (n : Nat) : Clo (w.drewN n) x y z A m c s e := ⟨h.a, h.b, h.c, h.xy, h.xz, h.yz⟩
theorem Clo.below {w w' : World} {x y z : Nat} {A : Option Addr} {m c s e : Nat} (h : Clo w x y z A m c s e) (hb : Below w.heap.size w w') : Clo w' x y z A m c s e :=
  ⟨(hb.block _ (At.lt h.a)).trans h.a, (hb.block _ (At.lt h.b)).trans h.b, (hb.block _ (At.lt h.c)).trans h.c, h.xy, h.xz, h.yz⟩
theorem Clo.grown {w w' : World} {x y z : Nat} {A : Option Addr} {m c s e : Nat} {row : Option Nat} (h : Clo w x y z A m c s e) (hb : w.grownBy w' row) (hr : ∀ k, row = some k → k ≠ x ∧ k ≠ y ∧ k ≠ z) : Clo w' x y z A m c s e :=
  ⟨(hb.block _ (At.lt h.a) (fun q => (hr x q.symm).1 rfl)).trans h.a, (hb.block _ (At.lt h.b) (fun q => (hr y q.symm).2.1 rfl)).trans h.b, (hb.block _ (At.lt h.c) (fun q => (hr z q.symm).2.2 rfl)).trans h.c, h.xy, h.xz, h.yz⟩

theorem add_add_ (a : Addr) (i k : Nat) : (a.add i).add k = a.add (i + k) := by
  by_cases h1 : i = 0
  · subst h1; simp [Addr.add]
  · by_cases h2 : k = 0
    · subst h2; simp [Addr.add]
    · simp [Addr.add, h1, h2, Nat.add_assoc]
theorem cutter_any (w : World) (A : Option Addr) (m c : Nat) :
    Calls Tryz.prog 126 #[.slice A m c] w fun e w' => ∃ x y z : Nat, e = .returned (.func (.func 139) #[] #[.pointer (some ⟨x, 0, none⟩), .pointer (some ⟨y, 0, none⟩), .pointer (some ⟨z, 0, none⟩)]) ∧
      Clo w' x y z A m c 14 252 ∧ w.heap.size ≤ x ∧ w.heap.size ≤ y ∧ w.heap.size ≤ z ∧ Below w.heap.size w w' := by
  have hmf : ∀ (fn : Fn) (first cap : Array Value) (w : World), (Instr.makeFunc fn first cap).run Tryz.prog w = .ok (.func fn first cap) w := fun _ _ _ _ => rfl
  have HC : Clo (((w.alloc (.cells #[.slice A m c] 96)).alloc (.cells #[.int .i64 14] 3)).alloc (.cells #[.int .i64 252] 3)) w.heap.size (w.heap.size + 1) (w.heap.size + 1 + 1) A m c 14 252 := by
    refine ⟨?_, ?_, ?_, by omega, by omega, by omega⟩
    · show _ = _
      rw [Below.heap_alloc _ _ _ (by simp; omega), Below.heap_alloc _ _ _ (by simp), heap_alloc_new]
    · have := heap_alloc_new (w.alloc (.cells #[.slice A m c] 96)) (.cells #[.int .i64 14] 3)
      show _ = _
      rw [Below.heap_alloc _ _ _ (by simp)]
      simpa using this
    · have := heap_alloc_new ((w.alloc (.cells #[.slice A m c] 96)).alloc (.cells #[.int .i64 14] 3)) (.cells #[.int .i64 252] 3)
      show _ = _
      simpa using this
  have HC' := Lib.hid HC
  clear HC
  have HB := Lib.hid (show Below w.heap.size w (((w.alloc (.cells #[.slice A m c] 96)).alloc (.cells #[.int .i64 14] 3)).alloc (.cells #[.int .i64 252] 3)) from (((Below.refl _ _).alloc (Nat.le_refl _) _).alloc (by simp) _).alloc (by simp; omega) _)
  go_enter Tryz.func126, Tryz.ntmps126
  go_wp2_with fail
  go_ret
  exact ⟨_, _, _, rfl, HC'.out, by omega, by omega, by omega, HB.out⟩

set_option maxRecDepth 100000 in
set_option maxHeartbeats 1600000 in
theorem next_yes (w : World) (B x y z : Nat) (A : Option Addr) (l : List UInt8) (c s e m : Nat) (h : Clo w x y z A m c s e) (hm : m = l.length) (hrow : Row w B A (bv l)) (hs : s + 1 < l.length) (he : e ≤ l.length) (hc : l.length ≤ c) (hl : l.length ≤ 1000000)
    (hf : gt l s + gt l (s + 1) = e) :
    Calls Tryz.prog 139 #[.pointer (some ⟨x, 0, none⟩), .pointer (some ⟨y, 0, none⟩), .pointer (some ⟨z, 0, none⟩)] w fun ex w' => ∃ A' cp, ex = .returned (.tuple #[.slice A' (gt l (s + 1)) cp, .bool true]) ∧
      Row w B A' (bv ((l.drop (gt l s)).take (gt l (s + 1)))) ∧ ∃ n, w' = ((w.setCell ⟨y, 0, none⟩ (.int .i64 ((s + 2 : Nat) : Int))).setCell ⟨z, 0, none⟩ (.int .i64 (gt l s : Int))).drewN n := by
  subst hm
  obtain ⟨ad, rfl, hb0, c0⟩ := hrow.get s (by rw [bv_len]; omega)
  obtain ⟨ad', hA, hb1, c1⟩ := hrow.get (s + 1) (by rw [bv_len]; omega)
  injection hA with hA
  subst hA
  simp only [bv, List.getElem_map] at c0 c1
  rw [← gt_get l s (by omega)] at c0
  rw [← gt_get l (s + 1) (by omega)] at c1
  have ca : w.cell? ⟨x, 0, none⟩ = some (.slice (some ad) l.length c) := by rw [h.a.cell]; rfl
  have cb : w.cell? ⟨y, 0, none⟩ = some (.int .i64 (s : Int)) := by rw [h.b.cell]; rfl
  have cc : w.cell? ⟨z, 0, none⟩ = some (.int .i64 (e : Int)) := by rw [h.c.cell]; rfl
  have fb := h.b.frozen 0
  have fc := h.c.frozen 0
  have HRC := Lib.hid (show Row w B (some (ad.add (gt l s))) (bv ((l.drop (gt l s)).take (gt l (s + 1)))) from fun j v hv => by
    have hv2 : (bv l)[gt l s + j]? = some v := by
      simp only [bv, List.getElem?_map, List.getElem?_take, List.getElem?_drop] at hv ⊢
      split at hv
      · exact hv
      · cases hv
    obtain ⟨ad', e1, h1, h2⟩ := hrow _ v hv2
    injection e1 with e1
    subst e1
    exact ⟨_, rfl, by rw [blk_add]; exact h1, by rw [add_add_]; exact h2⟩)
  have hyz := h.yz
  have hxy := h.xy
  have hxz := h.xz
  have g0 := gt_lt l s
  have g1 := gt_lt l (s + 1)
  generalize gt l s = a at *
  generalize gt l (s + 1) = b at *
  have i0 : (s : Int) < (l.length : Int) := by omega
  have i1 : (s : Int) + 1 < (l.length : Int) := by omega
  have j0 : IntKind.i64.wrap ((s : Int) + 1) = (s : Int) + 1 := IntWalk.i64_in _ (by omega)
  have j1 : IntKind.i64.wrap (a : Int) = (a : Int) := IntWalk.i64_in _ (by omega)
  have j2 : IntKind.i64.wrap (b : Int) = (b : Int) := IntWalk.i64_in _ (by omega)
  have c2 : w.cell? ⟨ad.block, ad.off + (s + 1), none⟩ = some (.int .u8 (b : Int)) := by rw [← c1]; simp [Addr.add]
  have i2 : (0 : Int) ≤ (s : Int) + 1 := by omega
  have i3 : ((s : Int) + 1).toNat = s + 1 := by omega
  clear hrow h
  go_enter Tryz.func139, Tryz.ntmps139
  go_wp2_with fail
  go_quiet (fail)
  go_wp2_with fail
  all_goals
    go_ret2
    have hba : e - a = b := by omega
    try simp only [hba]
    first
      | exact ⟨_, ⟨_, rfl⟩, HRC.out, nq, rfl⟩
      | (obtain rfl : b = 0 := by omega
         exact ⟨_, ⟨_, rfl⟩, Row.nil, nq, rfl⟩)
set_option maxRecDepth 100000 in
set_option maxHeartbeats 1600000 in
theorem next_no (w : World) (B x y z : Nat) (A : Option Addr) (l : List UInt8) (c s e m : Nat) (h : Clo w x y z A m c s e) (hm : m = l.length) (hrow : Row w B A (bv l)) (hs : s + 1 < l.length) (hl : l.length ≤ 1000000)
    (hf : gt l s + gt l (s + 1) ≠ e) :
    Calls Tryz.prog 139 #[.pointer (some ⟨x, 0, none⟩), .pointer (some ⟨y, 0, none⟩), .pointer (some ⟨z, 0, none⟩)] w fun ex w' => ex = .returned (.tuple #[.slice none 0 0, .bool false]) ∧ ∃ n, w' = w.drewN n := by
  subst hm
  obtain ⟨ad, rfl, hb0, c0⟩ := hrow.get s (by rw [bv_len]; omega)
  obtain ⟨ad', hA, hb1, c1⟩ := hrow.get (s + 1) (by rw [bv_len]; omega)
  injection hA with hA
  subst hA
  simp only [bv, List.getElem_map] at c0 c1
  rw [← gt_get l s (by omega)] at c0
  rw [← gt_get l (s + 1) (by omega)] at c1
  have ca : w.cell? ⟨x, 0, none⟩ = some (.slice (some ad) l.length c) := by rw [h.a.cell]; rfl
  have cb : w.cell? ⟨y, 0, none⟩ = some (.int .i64 (s : Int)) := by rw [h.b.cell]; rfl
  have cc : w.cell? ⟨z, 0, none⟩ = some (.int .i64 (e : Int)) := by rw [h.c.cell]; rfl
  have g0 := gt_lt l s
  have g1 := gt_lt l (s + 1)
  have hne : ((gt l s : Int) + (gt l (s + 1) : Int) != (e : Int)) = true := by simp; omega
  generalize gt l s = a at *
  generalize gt l (s + 1) = b at *
  have i0 : (s : Int) < (l.length : Int) := by omega
  have i1 : (s : Int) + 1 < (l.length : Int) := by omega
  have j0 : IntKind.i64.wrap ((s : Int) + 1) = (s : Int) + 1 := IntWalk.i64_in _ (by omega)
  have j1 : IntKind.i64.wrap (a : Int) = (a : Int) := IntWalk.i64_in _ (by omega)
  have j2 : IntKind.i64.wrap (b : Int) = (b : Int) := IntWalk.i64_in _ (by omega)
  have c2 : w.cell? ⟨ad.block, ad.off + (s + 1), none⟩ = some (.int .u8 (b : Int)) := by rw [← c1]; simp [Addr.add]
  have i2 : (0 : Int) ≤ (s : Int) + 1 := by omega
  have i3 : ((s : Int) + 1).toNat = s + 1 := by omega
  clear hrow h hf
  go_enter Tryz.func139, Tryz.ntmps139
  go_wp2_with fail
  go_quiet (fail)
  go_wp2_with fail
  go_ret2
  exact ⟨rfl, nq, rfl⟩
end Go.Proofs.YtpidnkfcccboaaaGreat.PageCut
namespace Go.Proofs.YtpidnkfcccboaaaGreat.PageTold
open Go.RowKit Base PagePlain PageSmall PageBytes PageLay PagePut PageCut SumMem

theorem el_strs : Elem Tryz.prog 37 9 16 := elem_mk (z := .string ⟨#[]⟩) Tryz.underlying37 (by kernel_rfl) rfl
def tcells (l : List UInt8) : Option (List ByteArray) := if 236 < 2 * gt l 1 then none else cuts l (gt l 1) 14 252
theorem own_set {w : World} {base c : Nat} {e : TypeId} {A : Option Addr} {xs : List Value} (h : Own w base e A c xs) (p : Addr) (hp : p.block < base) (u : Value) : Own (w.setCell p u) base e A c xs :=
 World.ownsRow.kept h (row := some p.block) ⟨rfl, rfl, rfl, by simp [World.setCell], fun i _ hne => Below.heap_setCell w p u i (by rintro rfl; exact hne rfl)⟩ (by
  cases hq : (Value.slice A xs.length c).ownBlock with
  | none => exact .inl rfl
  | some a => exact .inr (fun e => by have := (h.block a hq).1; injection e with e; omega))
/-- what stands between two rounds of cellsOf -/
structure CRel (W : World) (B x y z : Nat) (A : Option Addr) (m c : Nat) (l : List UInt8) (k : Nat) (cs : List ByteArray) (A' : Option Addr) (c' e : Nat) (w : World) : Prop where
 own : Own w B 9 A' c' (strs cs)
 clo : Clo w x y z A m c (14 + 2 * k) e
 len : cs.length = k
 le : e ≤ 256
 cut : cuts l (gt l 1) 14 252 = (cuts l (gt l 1 - k) (14 + 2 * k) e).map (cs ++ ·)
 bl : Below W.heap.size W w
 sz : B ≤ w.heap.size
/-- what cellsOf tells -/
def CellsPost (W : World) (l : List UInt8) (e : Ending) (w' : World) : Prop :=
 Below W.heap.size W w' ∧ match tcells l with
 | none => e = .returned (.tuple #[.slice none 0 0, .bool false])
 | some cs => ∃ A' c', e = .returned (.tuple #[.slice A' cs.length c', .bool true]) ∧ Own w' W.heap.size 9 A' c' (strs cs)
theorem own_more {w : World} {base base' c : Nat} {e : TypeId} {A : Option Addr} {xs : List Value} (h : Own w base e A c xs) (hb : base' ≤ base) : Own w base' e A c xs := by
 unfold Own at *
 rcases h with ⟨h1, h2⟩
 refine ⟨h1, ?_⟩
 rcases h2 with h2 | ⟨g, cap, cur, a1, a2, a3⟩
 ·exact .inl h2
 ·exact .inr ⟨g, cap, cur, a1, Nat.le_trans hb a2, a3⟩

set_option maxRecDepth 100000 in
set_option maxHeartbeats 3200000 in
theorem cells_any (w : World) (A : Option Addr) (l : List UInt8) (c m : Nat) (hm : m = l.length) (hrow : Row w w.heap.size A (bv l)) (hl : l.length = 256) (hc : l.length ≤ c) :
  Calls Tryz.prog 104 #[.slice A m c] w (CellsPost w l) := by
 subst hm
 obtain ⟨ad, hA, hb0, c1⟩ := hrow.get 1 (by rw [bv_len]; omega)
 subst hA
 simp only [bv, List.getElem_map] at c1
 rw [← gt_get l 1 (by omega)] at c1
 have HTC := Lib.hid (show tcells l = if 236 < 2 * gt l 1 then none else cuts l (gt l 1) 14 252 from rfl)
 have g1 := gt_lt l 1
 generalize hn : gt l 1 = n at c1 HTC g1
 have HN := Lib.hid hn
 clear hn
 have HL := Lib.hid hl
 have i1 : (1 : Int) < (l.length : Int) := by omega
 have c2 : w.cell? ⟨ad.block, ad.off + 1, none⟩ = some (.int .u8 (n : Int)) := by rw [← c1]; simp [Addr.add]
 clear hl
 by_cases hbig : 236 < 2 * n
 ·have hb : (236 : Int) < (n : Int) * 2 := by omega
  have hn : tcells l = none := by rw [HTC.out, if_pos hbig]
  have HNN := Lib.hid hn
  clear hn
  go_enter Tryz.func104, Tryz.ntmps104
  go_wp2_with fail
  go_ret2
  refine ⟨Below.refl _ _, ?_⟩
  rw [HNN.out]
  rfl
 ·have hnb : ¬ (236 : Int) < (n : Int) * 2 := by omega
  have hn : tcells l = cuts l (gt l 1) 14 252 := by rw [HTC.out, if_neg hbig, HN.out]
  have HNN := Lib.hid hn
  clear hn HTC
  go_enter Tryz.func104, Tryz.ntmps104
  go_wp2_with fail
  refine (cutter_any w (some ad) l.length c).mono ?_
  rintro e w1 ⟨x, y, z, rfl, hclo, hx, hy, hz, hb1⟩
  have hxw := At.lt hclo.a
  have hyw := At.lt hclo.b
  have hzw := At.lt hclo.c
  have R0 : CRel w w1.heap.size x y z (some ad) l.length c l 0 [] none 0 252 w1 := ⟨Own.nil _ _ _, hclo, rfl, by omega, by simp, hb1, Nat.le_refl _⟩
  have hBw := hb1.size
  clear hclo hb1 c1 c2
  generalize w1.heap.size = B at *
  go_wp2_with fail
  go_loopw [6, 19] (fun v i wr => ∃ (k : Nat) (cs : List ByteArray) (A' : Option Addr) (c' e : Nat), k ≤ n ∧ i = .int .i64 k ∧ v = .slice A' cs.length c' ∧ CRel w B x y z (some ad) l.length c l k cs A' c' e wr) (fun _ i _ => n - (intOf i).toNat)
  case atStart => exact ⟨0, [], none, 0, 252, by omega, rfl, rfl, R0⟩
  case round =>
   clear R0
   obtain ⟨k, cs, A', c', e, hk, rfl, rfl, hrel⟩ := hrel
   by_cases hlt : k < n
   ·have hrw : Row wr w.heap.size (some ad) (bv l) := hrow.below hrel.bl
    by_cases hf : gt l (14 + 2 * k) + gt l (14 + 2 * k + 1) = e
    ·have hsub : ((l.drop (gt l (14 + 2 * k))).take (gt l (14 + 2 * k + 1))).length = gt l (14 + 2 * k + 1) := by
      rw [List.length_take, List.length_drop, HL.out]; have := hrel.le; omega
     have hconvF : ∀ (w2 : World) (A2 : Option Addr) (cp : Nat), Row w2 w.heap.size A2 (bv ((l.drop (gt l (14 + 2 * k))).take (gt l (14 + 2 * k + 1)))) →
       (convert 96 9 (.slice A2 (gt l (14 + 2 * k + 1)) cp)).run Tryz.prog w2 = .ok (.string (sub l (gt l (14 + 2 * k)) (gt l (14 + 2 * k + 1)))) w2 := fun w2 A2 cp hr => by
      have := conv_bytes (P := Tryz.prog) Tryz.underlying96 Tryz.underlying5 Tryz.underlying9 cp hr
      rw [hsub] at this
      exact this
     have HCV := Lib.hid hconvF
     have HF := Lib.hid hf
     have HCUT := Lib.hid (show cuts l (gt l 1) 14 252 = (cuts l (gt l 1 - (k + 1)) (14 + 2 * (k + 1)) (gt l (14 + 2 * k))).map ((cs ++ [sub l (gt l (14 + 2 * k)) (gt l (14 + 2 * k + 1))]) ++ ·) by
      rw [hrel.cut, show gt l 1 - k = (gt l 1 - (k + 1)) + 1 by rw [HN.out]; omega]
      simp only [cuts]
      rw [if_pos hf, Option.map_map]
      congr 1
      funext t
      simp)
     have hle : gt l (14 + 2 * k) ≤ 256 := Nat.le_of_lt (gt_lt l _)
     clear hconvF hsub
     go_wp2_with fail
     refine (next_yes wr w.heap.size x y z (some ad) l c (14 + 2 * k) e _ hrel.clo rfl hrw (by rw [HL.out]; omega) (by rw [HL.out]; exact hrel.le) hc (by rw [HL.out]; omega) hf).mono ?_
     rintro ex w2 ⟨A2, cp, rfl, hr2, nn, hw2⟩
     have hclo2 : Clo w2 x y z (some ad) l.length c (14 + 2 * (k + 1)) (gt l (14 + 2 * k)) := by
      rw [hw2, show 14 + 2 * (k + 1) = 14 + 2 * k + 2 by omega]
      exact (hrel.clo.set (14 + 2 * k + 2) (gt l (14 + 2 * k))).drewN nn
     have hown2 : Own w2 B 9 A' c' (strs cs) := by rw [hw2]; exact own_set (own_set hrel.own ⟨y, 0, none⟩ hyw _) ⟨z, 0, none⟩ hzw _
     have hbl2 : Below w.heap.size w w2 := by rw [hw2]; exact (Below.setCell (p := ⟨z, 0, none⟩) (Below.setCell (p := ⟨y, 0, none⟩) hrel.bl hy _) hz _).trans (below_drewN _ _ nn)
     have hrow2 : Row w2 w.heap.size A2 (bv ((l.drop (gt l (14 + 2 * k))).take (gt l (14 + 2 * k + 1)))) := by
      rw [hw2]
      exact (hr2.below (Below.setCell (p := ⟨z, 0, none⟩) (Below.setCell (p := ⟨y, 0, none⟩) (Below.refl w.heap.size wr) hy _) hz _)).drewN nn
     have hsz2 : B ≤ w2.heap.size := by rw [hw2]; simpa [World.setCell] using hrel.sz
     have hconv := HCV.out w2 A2 cp hrow2
     have HLEN := Lib.hid hrel.len
     have hlen : cs.length ≤ 200 := by have := hrel.len; omega
     clear hrel hr2 hw2 hrow2 hf hrw HCV
     generalize gt l (14 + 2 * k + 1) = g2 at *
     generalize gt l (14 + 2 * k) = g1 at *
     generalize sub l g1 g2 = q at *
     have HC2 := Lib.hid hclo2
     clear hclo2
     go_wp2_with (at_builtin; refine wpList_append_row rfl (.tmp 28) (.tmp 31) 37 rfl el_strs (A := A') (c := c') (n := cs.length) (m := 1) (xs := strs cs) rfl (by simp [strs]) (hown2.alloc _) rfl rfl (row_of_block (heap_alloc_new w2 _)) (by simp [Value.oneCell']) (by simp [strs, maxLen]; omega) (by simp [strs]; omega) (by simp; omega) ?_; intro A3 c3 w3 hown3 hg3)
     go_roundw
     case rel =>
      have hb3 : Below w.heap.size w w3 := (hown2.alloc _).below (hbl2.alloc hbl2.size _) hg3 hBw (by simp; omega)
      refine ⟨k + 1, cs ++ [q], A3, c3, g1, by omega, by go_num, by simp, ?_, ?_, by simp [HLEN.out], hle, HCUT.out, hb3, ?_⟩
      ·have := hown3
       simpa [strs] using this
      ·exact (HC2.out.below ((Below.refl _ _).alloc (Nat.le_refl _) _)).grown hg3 fun k hk => by
        have := (hown2.block k hk).1
        omega
      ·have := hg3.size
       simp at this
       omega
     case measure => simp [intOf]; omega
    ·have hnone : tcells l = none := by
      rw [HNN.out, hrel.cut, show gt l 1 - k = (gt l 1 - (k + 1)) + 1 by rw [HN.out]; omega]
      simp only [cuts]
      rw [if_neg hf]
      rfl
     have HNO := Lib.hid hnone
     have hbl := hrel.bl
     clear hnone
     go_wp2_with fail
     refine (next_no wr w.heap.size x y z (some ad) l c (14 + 2 * k) e _ hrel.clo rfl hrw (by rw [HL.out]; omega) (by rw [HL.out]; omega) hf).mono ?_
     rintro ex w2 ⟨rfl, nn, rfl⟩
     clear hrel hrw hf
     go_wp2_with fail
     go_ret2
     refine ⟨hbl.trans (below_drewN _ _ nn), ?_⟩
     rw [HNO.out]
     rfl
   ·obtain rfl : k = n := by omega
    have hsome : tcells l = some cs := by
     rw [HNN.out, hrel.cut, HN.out, Nat.sub_self]
     simp [cuts]
    have HSO := Lib.hid hsome
    have hbl := hrel.bl
    have HOW := Lib.hid (own_more hrel.own hBw)
    clear hsome hrel
    go_wp2_with fail
    go_ret2
    refine ⟨hbl, ?_⟩
    rw [HSO.out]
    exact ⟨_, _, rfl, HOW.out⟩
end Go.Proofs.YtpidnkfcccboaaaGreat.PageTold
namespace Go.Proofs.YtpidnkfcccboaaaGreat.PageTold2
open Go.RowKit Base PagePlain PageSmall PageBytes PageLay PagePut PageCut PageTold SumMem SumOf

theorem set5 {w : World} {g : Nat} {t : TypeId} {cs : Array Value} (h : At w g t cs) (hs : cs.size = 5) (a b c d e : Value) :
  At (((((w.setCell ⟨g, 0, none⟩ a).setCell ⟨g, 1, none⟩ b).setCell ⟨g, 2, none⟩ c).setCell ⟨g, 3, none⟩ d).setCell ⟨g, 4, none⟩ e) g t #[a, b, c, d, e] := by
 obtain ⟨l⟩ := cs
 match l, hs, h with
 | [x0, x1, x2, x3, x4], _, h =>
  have q : (((((List.toArray [x0, x1, x2, x3, x4]).setIfInBounds 0 a).setIfInBounds 1 b).setIfInBounds 2 c).setIfInBounds 3 d).setIfInBounds 4 e = #[a, b, c, d, e] := rfl
  rw [← q]
  exact ((((h.set 0 a).set 1 b).set 2 c).set 3 d).set 4 e
theorem below5 {W w : World} {B g : Nat} (h : Below B W w) (hg : B ≤ g) (a b c d e : Value) :
  Below B W (((((w.setCell ⟨g, 0, none⟩ a).setCell ⟨g, 1, none⟩ b).setCell ⟨g, 2, none⟩ c).setCell ⟨g, 3, none⟩ d).setCell ⟨g, 4, none⟩ e) :=
 ((((h.setCell (by exact hg) a).setCell (by exact hg) b).setCell (by exact hg) c).setCell (by exact hg) d).setCell (by exact hg) e
theorem results_cell_tmp_row {P : Program} {fn : Func} {p u : Tmp} {ty : TypeId} (h : fn.results = #[.cell p ty, .tmp u]) (tmps : Array Value) (w : World) (g : Nat) (t : TypeId) (cs : Array Value) (fr : Nat × Nat) (d : TypeDesc)
  (hp : tmps.getD p undef = .pointer (some ⟨g, 0, none⟩)) (hg : w.heap[g]? = some (.cells cs t fr))
  (hu : P.underlying ty = some d) (hd : (match d with | .struct _ | .array _ _ => true | _ => false) = true) (hi : (P.info? ty).map (·.size) = some cs.size) :
  (results fn tmps).run P w = .ok (.tuple #[.agg cs, tmps.getD u undef]) w := by
 rw [results_cell_tmp h, hp]
 simp [asAddr, run_loadVar_row w g t ty cs fr d hg hu hd hi, Result.andThen]
theorem size_u8 (w : World) : (sizeOf (Tryz.prog.elem 96)).run Tryz.prog w = .ok 1 w := by kernel_rfl
theorem under_u8 : Tryz.prog.underlying 96 = some (.slice (Tryz.prog.elem 96)) := by kernel_rfl
theorem bv_drop {l : List UInt8} {i j : Nat} {v : Value} (h : (bv (l.drop i))[j]? = some v) : (bv l)[i + j]? = some v := by
 simpa only [bv, List.getElem?_map, List.getElem?_drop] using h
theorem row_drop {w : World} {B : Nat} {ad : Addr} {l : List UInt8} (h : Row w B (some ad) (bv l)) (i : Nat) : Row w B (some (ad.add i)) (bv (l.drop i)) := fun j v hv => by
 obtain ⟨ad', e, h1, h2⟩ := h _ v (bv_drop hv)
 injection e with e
 subst e
 exact ⟨_, rfl, by rw [blk_add]; exact h1, by rw [add_add_]; exact h2⟩
theorem sl_l (ad : Addr) (n c k : Nat) (hn : k ≤ n) (hk : k < c) (x : Int) (hx : x = k) (w : World) : (Instr.slice 96 (.slice (some ad) n c) (some (.int .i64 x)) none none).run Tryz.prog w = .ok (.slice (some (ad.add k)) (n - k) (c - k)) w := by
 subst hx
 rw [run_slice_l w 96 (some ad) n c under_u8 .i64 k (by omega) (by omega), size_u8]
 simp only [sliced, Result.andThen, Int.toNat_natCast, Nat.mul_one]
 rw [if_neg (by omega)]
 rfl
theorem sl_h (ad : Addr) (n c k : Nat) (hk : 0 < k) (hc : k ≤ c) (x : Int) (hx : x = k) (w : World) : (Instr.slice 96 (.slice (some ad) n c) none (some (.int .i64 x)) none).run Tryz.prog w = .ok (.slice (some ad) k c) w := by
 subst hx
 rw [run_slice_h w 96 (some ad) n c under_u8 .i64 k (by omega) (by omega), size_u8]
 have h0 : ¬ (c = 0) := by omega
 simp [sliced, Result.andThen, h0, Addr.add]
theorem gt_drop (l : List UInt8) (n i : Nat) : gt (l.drop n) i = gt l (n + i) := by unfold gt; rw [List.getElem?_drop]
theorem rd4_drop (l : List UInt8) (n : Nat) : rd4 (l.drop n) 0 = rd4 l n := by simp [rd4, gt_drop]
theorem rd4_lt (l : List UInt8) (n : Nat) : rd4 l n < 4294967296 := by
 have h0 := gt_lt l n
 have h1 := gt_lt l (n + 1)
 have h2 := gt_lt l (n + 2)
 have h3 := gt_lt l (n + 3)
 unfold rd4
 omega
def fv (l : List UInt8) (j : Nat) : Array Value := #[.int .i64 (if 0 < j then (rd4 l 2 : Nat) else 0 : Int), .int .i64 (if 1 < j then (rd4 l 6 : Nat) else 0 : Int), .int .i64 (if 2 < j then (rd4 l 10 : Nat) else 0 : Int)]
theorem fv_at (l : List UInt8) (j : Nat) (hj : j < 3) : (fv l j)[j]? = some (.int .i64 0) := by
 match j, hj with
 | 0, _ => rfl
 | 1, _ => rfl
 | 2, _ => rfl
theorem fv_set (l : List UInt8) (j : Nat) (hj : j < 3) : (fv l j).setIfInBounds j (.int .i64 (rd4 l (2 + 4 * j) : Nat)) = fv l (j + 1) := by
 match j, hj with
 | 0, _ => rfl
 | 1, _ => rfl
 | 2, _ => rfl
abbrev nop : Value := .agg #[.int .i64 0, .int .i64 0, .int .i64 0, .int .i64 0, .slice none 0 0]
/-- what told tells -/
def ToldPost (W : World) (l : List UInt8) (e : Ending) (w' : World) : Prop :=
 Below W.heap.size W w' ∧ match told l with
 | none => e = .returned (.tuple #[nop, .bool false])
 | some p => ∃ A' c', e = .returned (.tuple #[pv p A' c', .bool true]) ∧ Own w' W.heap.size 9 A' c' (strs p.cells)
theorem told_cells (l : List UInt8) : told l = (tcells l).map fun cs => ⟨gt l 0, rd4 l 2, rd4 l 6, rd4 l 10, cs⟩ := by
 unfold told tcells
 by_cases h : 236 < 2 * gt l 1
 ·rw [if_pos h, if_pos h]; rfl
 ·rw [if_neg h, if_neg h]
/-- what stands between two rounds of told -/
structure TRel (W : World) (w1 : World) (b : Nat) (l : List UInt8) (j : Nat) (w : World) : Prop where
 z : At w W.heap.size 69 #[.int .i64 0, .int .i64 0, .int .i64 0, .int .i64 0, .slice none 0 0]
 f : At w b 178 (fv l j)
 b1 : Below w1.heap.size w1 w
 bl : Below W.heap.size W w

set_option maxRecDepth 100000 in
set_option maxHeartbeats 3200000 in
theorem told_any (w : World) (ad : Addr) (l : List UInt8) (c m : Nat) (hm : m = l.length) (hrow : Row w w.heap.size (some ad) (bv l)) (hl : l.length = 256) (hc : l.length ≤ c) :
  Calls Tryz.prog 77 #[.slice (some ad) m c] w (ToldPost w l) := by
 subst hm
 have HT := Lib.hid (told_cells l)
 have hb0 : Below w.heap.size w (w.alloc (.cells #[.int .i64 0, .int .i64 0, .int .i64 0, .int .i64 0, .slice none 0 0] 69)) := (Below.refl _ _).alloc (Nat.le_refl _) _
 have hz0 : At (w.alloc (.cells #[.int .i64 0, .int .i64 0, .int .i64 0, .int .i64 0, .slice none 0 0] 69)) w.heap.size 69 #[.int .i64 0, .int .i64 0, .int .i64 0, .int .i64 0, .slice none 0 0] := heap_alloc_new w _
 have hcl := cells_any (w.alloc (.cells #[.int .i64 0, .int .i64 0, .int .i64 0, .int .i64 0, .slice none 0 0] 69)) (some ad) l c _ rfl (hrow.belowSize hb0) hl hc
 have HL := Lib.hid hl
 clear hl
 unfold CellsPost at hcl
 cases htc : tcells l with
 | none =>
  rw [htc] at hcl HT
  go_enter Tryz.func77, Tryz.ntmps77
  go_wp2_with fail
  refine hcl.mono ?_
  rintro e w1 ⟨hb1, rfl⟩
  have hz1 := (hb1.block _ (At.lt hz0)).trans hz0
  have hb := Below.step hb0 hb1
  have HZ := Lib.hid (set5 hz1 rfl (.int .i64 0) (.int .i64 0) (.int .i64 0) (.int .i64 0) (.slice none 0 0))
  have k0 : w1.cell? ⟨w.heap.size, 0, none⟩ = some (.int .i64 0) := by rw [At.cell hz1]; rfl
  have k1 : w1.cell? ⟨w.heap.size, 1, none⟩ = some (.int .i64 0) := by rw [At.cell hz1]; rfl
  have k2 : w1.cell? ⟨w.heap.size, 2, none⟩ = some (.int .i64 0) := by rw [At.cell hz1]; rfl
  have k3 : w1.cell? ⟨w.heap.size, 3, none⟩ = some (.int .i64 0) := by rw [At.cell hz1]; rfl
  have k4 : w1.cell? ⟨w.heap.size, 4, none⟩ = some (.slice none 0 0) := by rw [At.cell hz1]; rfl
  have z0 := At.frozen hz1 0
  have z1 := At.frozen hz1 1
  have z2 := At.frozen hz1 2
  have z3 := At.frozen hz1 3
  have z4 := At.frozen hz1 4
  clear hcl htc hb0 hb1 hz0 hz1
  go_wp2_with fail
  refine bodyPost_ret (results_cell_tmp_row rfl _ _ w.heap.size 69 _ (0, 0) _ rfl HZ.out Tryz.underlying69 rfl (by kernel_rfl)) rfl ?_
  refine ⟨below5 hb (Nat.le_refl _) _ _ _ _ _, ?_⟩
  ·rw [HT.out]
   rfl
 | some cs =>
  rw [htc] at hcl HT
  have HT2 := Lib.hid (show told l = some ⟨gt l 0, rd4 l 2, rd4 l 6, rd4 l 10, cs⟩ from HT.out)
  clear HT
  go_enter Tryz.func77, Tryz.ntmps77
  go_wp2_with fail
  refine hcl.mono ?_
  rintro e w1 ⟨hb1, A', c', rfl, hown⟩
  have hz1 := (hb1.block _ (At.lt hz0)).trans hz0
  have hb := Below.step hb0 hb1
  have hown1 : Own w1 (w.heap.size + 1) 9 A' c' (strs cs) := by simpa using hown
  clear hcl htc hb0 hb1 hz0 hown
  have R0 : TRel w w1 w1.heap.size l 0 (w1.alloc (.cells #[.int .i64 0, .int .i64 0, .int .i64 0] 178)) := by
   refine ⟨?_, heap_alloc_new w1 _, (Below.refl _ _).alloc (Nat.le_refl _) _, hb.alloc hb.size _⟩
   exact (Below.heap_alloc w1 _ _ (At.lt hz1)).trans hz1
  have hw1 := At.lt hz1
  have hbs := hb.size
  clear hz1 hb
  go_wp2_with fail
  go_loopw [16] (fun i wr => ∃ j : Nat, j ≤ 3 ∧ i = .int .i64 j ∧ TRel w w1 w1.heap.size l j wr) (fun i _ => 3 - (intOf i).toNat)
  case atStart => exact ⟨0, by omega, rfl, R0⟩
  case round =>
   clear R0
   obtain ⟨j, hj, rfl, hrel⟩ := hrel
   by_cases hlt : j < 3
   ·have hrw : Row wr w.heap.size (some ad) (bv l) := hrow.below hrel.bl
    have hcut := sl_l ad l.length c (2 + 4 * j) (by rw [HL.out]; omega) (by have := HL.out; omega) (2 + (j : Int) * 4) (by omega)
    have hrd := read_any wr (some (ad.add (2 + 4 * j))) (l.length - (2 + 4 * j)) (c - (2 + 4 * j)) (l.drop (2 + 4 * j)) (by simp) ((row_drop hrw (2 + 4 * j)).more hrel.bl.size) (by rw [List.length_drop, HL.out]; omega) (by rw [List.length_drop]; omega)
    rw [rd4_drop] at hrd
    have hc0 : wr.cell? ⟨w1.heap.size, j, none⟩ = some (.int .i64 0) := by rw [At.cell hrel.f]; exact fv_at l j hlt
    have hf0 := At.frozen hrel.f j
    have HS := Lib.hid (fv_set l j hlt ▸ At.set hrel.f j (.int .i64 (rd4 l (2 + 4 * j) : Nat)))
    have hr4 := rd4_lt l (2 + 4 * j)
    generalize rd4 l (2 + 4 * j) = r at *
    clear hrw
    go_wp2_with fail
    refine hrd.mono ?_
    rintro e w2 ⟨rfl, rfl⟩
    clear hrd
    go_wp2_with fail
    go_roundw
    case rel => exact ⟨j + 1, by omega, by go_num, at_far hrel.z (by exact Nat.ne_of_lt hw1) _, HS.out, hrel.b1.setCell (by simp) _, hrel.bl.setCell (by exact hbs) _⟩
    case measure => simp [intOf]; omega
   ·obtain rfl : j = 3 := by omega
    obtain ⟨a0, hA0, _, cb0⟩ := (hrow.below hrel.bl).get 0 (by rw [bv_len, HL.out]; omega)
    injection hA0 with hA0
    subst hA0
    simp only [bv, List.getElem_map] at cb0
    rw [← gt_get l 0 (by rw [HL.out]; omega), show ad.add 0 = ad by simp [Addr.add]] at cb0
    have q0 : wr.cell? ⟨w1.heap.size, 0, none⟩ = some (.int .i64 (rd4 l 2 : Nat)) := by rw [At.cell hrel.f]; rfl
    have q1 : wr.cell? ⟨w1.heap.size, 1, none⟩ = some (.int .i64 (rd4 l 6 : Nat)) := by rw [At.cell hrel.f]; rfl
    have q2 : wr.cell? ⟨w1.heap.size, 2, none⟩ = some (.int .i64 (rd4 l 10 : Nat)) := by rw [At.cell hrel.f]; rfl
    have k0 : wr.cell? ⟨w.heap.size, 0, none⟩ = some (.int .i64 0) := by rw [At.cell hrel.z]; rfl
    have k1 : wr.cell? ⟨w.heap.size, 1, none⟩ = some (.int .i64 0) := by rw [At.cell hrel.z]; rfl
    have k2 : wr.cell? ⟨w.heap.size, 2, none⟩ = some (.int .i64 0) := by rw [At.cell hrel.z]; rfl
    have k3 : wr.cell? ⟨w.heap.size, 3, none⟩ = some (.int .i64 0) := by rw [At.cell hrel.z]; rfl
    have k4 : wr.cell? ⟨w.heap.size, 4, none⟩ = some (.slice none 0 0) := by rw [At.cell hrel.z]; rfl
    have z0 := At.frozen hrel.z 0
    have z1 := At.frozen hrel.z 1
    have z2 := At.frozen hrel.z 2
    have z3 := At.frozen hrel.z 3
    have z4 := At.frozen hrel.z 4
    have hl1 : 0 < l.length := by rw [HL.out]; omega
    have hl0 : (0 : Int) < (l.length : Int) := by have := HL.out; omega
    have g0 := gt_lt l 0
    have HOW := Lib.hid (own_more (own_set (own_set (own_set (own_set (own_set (hown1.later hrel.b1) ⟨w.heap.size, 0, none⟩ (Nat.lt_succ_self _) (.int .i64 (gt l 0 : Nat))) ⟨w.heap.size, 1, none⟩ (Nat.lt_succ_self _) (.int .i64 (rd4 l 2 : Nat)))
     ⟨w.heap.size, 2, none⟩ (Nat.lt_succ_self _) (.int .i64 (rd4 l 6 : Nat))) ⟨w.heap.size, 3, none⟩ (Nat.lt_succ_self _) (.int .i64 (rd4 l 10 : Nat))) ⟨w.heap.size, 4, none⟩ (Nat.lt_succ_self _) (.slice A' cs.length c')) (Nat.le_succ w.heap.size))
    have hbl := hrel.bl
    have HZ := Lib.hid (set5 hrel.z rfl (.int .i64 (gt l 0 : Nat)) (.int .i64 (rd4 l 2 : Nat)) (.int .i64 (rd4 l 6 : Nat)) (.int .i64 (rd4 l 10 : Nat)) (.slice A' cs.length c'))
    clear hrel hown1
    generalize gt l 0 = v0 at *
    generalize rd4 l 2 = v1 at *
    generalize rd4 l 6 = v2 at *
    generalize rd4 l 10 = v3 at *
    go_wp2_with fail
    go_region
    all_goals
     go_wp2_with fail
     refine bodyPost_ret (results_cell_tmp_row rfl _ _ w.heap.size 69 _ (0, 0) _ rfl HZ.out Tryz.underlying69 rfl (by kernel_rfl)) rfl ?_
     refine ⟨(below5 hbl (Nat.le_refl _) _ _ _ _ _).drew, ?_⟩
     rw [HT2.out]
     exact ⟨A', c', rfl, HOW.out⟩
end Go.Proofs.YtpidnkfcccboaaaGreat.PageTold2
namespace Go.Proofs.YtpidnkfcccboaaaGreat.PageIs
open Go.RowKit Base PagePlain PageSmall PageBytes PageLay PagePut PageCut PageTold PageTold2 SumMem SumOf Str

theorem eql_str (l m : List UInt8) : decide ((⟨l.toArray⟩ : ByteArray) = ⟨m.toArray⟩) = decide (l = m) := by
 apply decide_eq_decide.2
 constructor
 ·intro h
  injection h with h
  simpa using h
 ·intro h; rw [h]
theorem equal_any (w : World) (A B : Option Addr) (l m : List UInt8) (n k c1 c2 : Nat) (hn : n = l.length) (hk : k = m.length) (hA : Row w w.heap.size A (bv l)) (hB : Row w w.heap.size B (bv m)) :
  Calls Tryz.prog 108 #[.slice A n c1, .slice B k c2] w fun e w' => e = .returned (.bool (decide (l = m))) ∧ w = w' := by
 subst hn hk
 have h1 := conv_bytes (P := Tryz.prog) Tryz.underlying96 Tryz.underlying5 Tryz.underlying9 c1 hA
 have h2 := conv_bytes (P := Tryz.prog) Tryz.underlying96 Tryz.underlying5 Tryz.underlying9 c2 hB
 have HE := Lib.hid (eql_str l m)
 generalize (⟨l.toArray⟩ : ByteArray) = s at *
 generalize (⟨m.toArray⟩ : ByteArray) = t at *
 go_enter Tryz.func108, Tryz.ntmps108
 go_wp2_with fail
 go_ret
 refine ⟨ret_bool ?_, rfl⟩
 rw [← HE.out, ba_beq]
theorem row_pre {w : World} {B : Nat} {A : Option Addr} {l m : List UInt8} (h : Row w B A (bv (l ++ m))) : Row w B A (bv l) := fun k v hv => h k v (by
 have hk : k < (bv l).length := (List.getElem?_eq_some_iff.1 hv).1
 rw [bv_append, List.getElem?_append_left hk]; exact hv)
theorem row_head {w : World} {B : Nat} {A : Option Addr} {l : List UInt8} (h : Row w B A (bv l)) (n : Nat) : Row w B A (bv (l.take n)) := by
 apply row_pre (m := l.drop n)
 rw [List.take_append_drop]; exact h

set_option maxRecDepth 100000 in
set_option maxHeartbeats 1600000 in
theorem isOf_any (w : World) (p : Pg) (A : Option Addr) (c : Nat) (ad : Addr) (l : List UInt8) (cb m : Nat) (hm : m = l.length) (hr : Row w w.heap.size A (strs p.cells)) (hro : room p.cells ≤ 236) (hok : PgOk p)
  (hb : Row w w.heap.size (some ad) (bv l)) (hl : l.length = 256) (hc : l.length ≤ cb) :
  Calls Tryz.prog 79 #[pv p A c, .slice (some ad) m cb] w fun e w' => e = .returned (.bool (decide (body p = l.take 252))) ∧ Below w.heap.size w w' := by
 subst hm
 have hb0 : Below w.heap.size w (w.alloc (.cells #[.int .i64 p.kind, .int .i64 p.no, .int .i64 p.epoch, .int .i64 p.link, .slice A p.cells.length c] 69)) := (Below.refl _ _).alloc (Nat.le_refl _) _
 have hlay := lay_any (w.alloc (.cells #[.int .i64 p.kind, .int .i64 p.no, .int .i64 p.epoch, .int .i64 p.link, .slice A p.cells.length c] 69)) p A c (hr.belowSize hb0) hro hok
 have HL := Lib.hid hl
 have hL : (body p ++ zs 4).length = 256 := by rw [List.length_append, body_len p hro]; rfl
 have hi := info_arr hL
 obtain ⟨Z, hZ, hZe⟩ := zero_arr
 have h1 := bv_all (body p ++ zs 4)
 have hsz : Z.size = (bv (body p ++ zs 4)).toArray.size := by rw [hZe]; simp only [List.size_toArray, bv_len, hL]; rfl
 have HBL := Lib.hid (body_len p hro)
 have hch := sl_h ad l.length cb 252 (by omega) (by omega) 252 rfl
 clear hZe hl hr
 go_enter Tryz.func79, Tryz.ntmps79
 go_wp2_with fail
 refine hlay.mono ?_
 rintro e w2 ⟨rfl, hb2⟩
 clear hlay
 have hb3 := Below.step hb0 hb2
 clear hb0 hb2
 have hca := cut_h w2.heap.size
 have hat : Arr ((w2.alloc (.cells Z 146)).setRow w2.heap.size (bv (body p ++ zs 4)).toArray) w2.heap.size 146 (body p ++ zs 4) := setRow_cells_at (heap_alloc_new w2 _) _
 have hb5 : Below w.heap.size w ((w2.alloc (.cells Z 146)).setRow w2.heap.size (bv (body p ++ zs 4)).toArray) := below_setRow (hb3.alloc hb3.size _) hb3.size _
 go_upto_region 2 with (first
  | (refine wpList_store_row rfl 146 (.tmp 5) (.tmp 7) rfl w2.heap.size _ rfl rfl 146 _ (heap_alloc_new w2 _) hi hsz h1 ?_))
 have hbw := hb3.size
 clear hb3 hZ hL hi hsz h1
 generalize (w2.alloc (.cells Z 146)).setRow w2.heap.size (bv (body p ++ zs 4)).toArray = w3 at *
 generalize w2.heap.size = b at *
 have heq := equal_any w3.drew (some ⟨b, 0, none⟩) (some ad) (body p) (l.take 252) 252 252 256 cb HBL.out.symm (by rw [List.length_take, HL.out]; rfl) (row_pre (Arr.row hat)) (row_head (hb.belowSize hb5) 252)
 clear hat hb
 generalize hB : decide (body p = l.take 252) = B at heq
 have HB := Lib.hid hB
 clear hB
 go_region_with (go_at_call 108; (with_reducible refine heq.mono ?_); rintro e w' ⟨rfl, rfl⟩)
 all_goals
  go_wp2_with fail
  go_ret
  exact ⟨by rw [HB.out]; rfl, hb5.drew⟩
end Go.Proofs.YtpidnkfcccboaaaGreat.PageIs
namespace Go.Proofs.YtpidnkfcccboaaaGreat.PageGet
open Go.RowKit Base PagePlain PageSmall PageBytes PageLay PagePut PageCut PageTold PageTold2 PageIs SumMem SumFill SumOf SumPlain

theorem sub_size (l : List UInt8) (o n : Nat) : (sub l o n).size ≤ n := by
 show ((l.drop o).take n).toArray.size ≤ n
 simp; omega
theorem cuts_small (l : List UInt8) (n s e : Nat) (cs : List ByteArray) (h : cuts l n s e = some cs) : cs.length = n ∧ ∀ q ∈ cs, q.size ≤ 255 := by
 induction n generalizing s e cs with
 | zero => simp only [cuts, Option.some.injEq] at h; subst h; simp
 | succ n ih =>
  simp only [cuts] at h
  split at h
  ·cases hc : cuts l n (s + 2) (gt l s) with
   | none => rw [hc] at h; cases h
   | some ds =>
    rw [hc] at h
    simp only [Option.map_some, Option.some.injEq] at h
    subst h
    obtain ⟨h1, h2⟩ := ih _ _ _ hc
    refine ⟨by simp [h1], fun q hq => ?_⟩
    rcases List.mem_cons.1 hq with e | e
    ·subst e
     have := sub_size l (gt l s) (gt l (s + 1))
     have := gt_lt l (s + 1)
     omega
    ·exact h2 q e
  ·cases h
theorem told_small {l : List UInt8} {p : Pg} (h : told l = some p) : p.cells.length ≤ 1000 ∧ ∀ q ∈ p.cells, q.size ≤ 1000 := by
 unfold told at h
 split at h
 ·cases h
 ·cases hc : cuts l (gt l 1) 14 252 with
  | none => rw [hc] at h; cases h
  | some cs =>
   rw [hc] at h
   simp only [Option.map_some, Option.some.injEq] at h
   subst h
   obtain ⟨h1, h2⟩ := cuts_small _ _ _ _ _ hc
   have := gt_lt l 1
   exact ⟨by show cs.length ≤ 1000; omega, fun q hq => by have := h2 q hq; omega⟩
theorem only_set {a w : World} {g : Nat} (h : Only g a w) (p : Addr) (hp : a.heap.size ≤ p.block) (u : Value) : Only g a (w.setCell p u) :=
 ⟨h.os, h.tape, h.output, by simpa [World.setCell] using h.size, fun i hi hne => (Below.heap_setCell w p u i (by rintro rfl; omega)).trans (h.block i hi hne)⟩
theorem only5 {W w : World} {g b : Nat} (h : Only g W w) (hb : W.heap.size ≤ b) (x0 x1 x2 x3 x4 : Value) :
  Only g W (((((w.setCell ⟨b, 0, none⟩ x0).setCell ⟨b, 1, none⟩ x1).setCell ⟨b, 2, none⟩ x2).setCell ⟨b, 3, none⟩ x3).setCell ⟨b, 4, none⟩ x4) :=
 only_set (only_set (only_set (only_set (only_set h ⟨b, 0, none⟩ hb _) ⟨b, 1, none⟩ hb _) ⟨b, 2, none⟩ hb _) ⟨b, 3, none⟩ hb _) ⟨b, 4, none⟩ hb _
theorem own5 {w : World} {B b c : Nat} {e : TypeId} {A : Option Addr} {xs : List Value} (h : Own w B e A c xs) (hb : b < B) (x0 x1 x2 x3 x4 : Value) :
  Own (((((w.setCell ⟨b, 0, none⟩ x0).setCell ⟨b, 1, none⟩ x1).setCell ⟨b, 2, none⟩ x2).setCell ⟨b, 3, none⟩ x3).setCell ⟨b, 4, none⟩ x4) B e A c xs :=
 own_set (own_set (own_set (own_set (own_set h ⟨b, 0, none⟩ hb _) ⟨b, 1, none⟩ hb _) ⟨b, 2, none⟩ hb _) ⟨b, 3, none⟩ hb _) ⟨b, 4, none⟩ hb _
theorem sm_far {w : World} {g : Nat} {d s n : Int} {T : Nat → Int} (h : Sm w g d s n T) (p : Addr) (hp : g ≠ p.block) (u : Value) : Sm (w.setCell p u) g d s n T := by
 obtain ⟨cs, h, r⟩ := h
 exact ⟨cs, at_far h hp u, r⟩
theorem ready_far {w : World} {g : Nat} {n : Int} (h : Ready w g n) (p : Addr) (hp : g ≠ p.block) (u : Value) : Ready (w.setCell p u) g n := by
 rcases h with ⟨T, h⟩ | h
 ·exact .inl ⟨T, sm_far h p hp u⟩
 ·exact .inr (sm_far h p hp u)
theorem ready5 {w : World} {g b : Nat} {n : Int} (h : Ready w g n) (hb : g ≠ b) (x0 x1 x2 x3 x4 : Value) :
  Ready (((((w.setCell ⟨b, 0, none⟩ x0).setCell ⟨b, 1, none⟩ x1).setCell ⟨b, 2, none⟩ x2).setCell ⟨b, 3, none⟩ x3).setCell ⟨b, 4, none⟩ x4) g n :=
 ready_far (ready_far (ready_far (ready_far (ready_far h ⟨b, 0, none⟩ hb _) ⟨b, 1, none⟩ hb _) ⟨b, 2, none⟩ hb _) ⟨b, 3, none⟩ hb _) ⟨b, 4, none⟩ hb _
/-- what Get of bytes comes to, in plain data: an error, or a page -/
def gotE (l : List UInt8) : Int ⊕ Pg := if l.length = 256 then if sum (l.take 252) = rd4 l 252 then match got l with | none => .inl 41 | some p => .inr p else .inl 42 else .inl 41
/-- what Get comes to -/
def GetPost (W : World) (g : Nat) (n : Int) (l : List UInt8) (e : Ending) (w' : World) : Prop :=
 (∃ n', n ≤ n' ∧ n' ≤ n + 252 ∧ Ready w' g n') ∧ Only g W w' ∧ match gotE l with
 | .inl k => e = .returned (.tuple #[nop, .int .i64 k])
 | .inr p => ∃ A' c', e = .returned (.tuple #[pv p A' c', .int .i64 0]) ∧ Own w' W.heap.size 9 A' c' (strs p.cells)
abbrev ZP : Obj := .cells #[.int .i64 0, .int .i64 0, .int .i64 0, .int .i64 0, .slice none 0 0] 69

set_option maxRecDepth 100000 in
set_option maxHeartbeats 3200000 in
theorem get_256 (g : Nat) (n : Int) (w : World) (ad : Addr) (m c : Nat) (l : List UInt8) (h : Ready w g n) (h0 : 0 ≤ n) (hn : n ≤ 900000000) (hr : RowX w g (some ad) (bv l)) (hm : m = l.length) (hl : l.length = 256) (hc : l.length ≤ c) :
  Calls Tryz.prog 48 #[.pointer (some ⟨g, 0, none⟩), .slice (some ad) m c] w (GetPost w g n l) := by
 subst hm
 have hne : ((l.length : Int) != 256) = false := by simp; omega
 have hgE : gotE l = if sum (l.take 252) = rd4 l 252 then match got l with | none => .inl 41 | some p => .inr p else .inl 42 := by unfold gotE; rw [if_pos hl]
 have hg := Ready.lt h
 have hb0 : Below w.heap.size w (w.alloc ZP) := (Below.refl _ _).alloc (Nat.le_refl _) _
 have hz0 : At (w.alloc ZP) w.heap.size 69 #[.int .i64 0, .int .i64 0, .int .i64 0, .int .i64 0, .slice none 0 0] := heap_alloc_new w _
 have hr0 : RowX (w.alloc ZP).drew g (some ad) (bv l) := hr.below (w' := (w.alloc ZP).drew) hb0.drew
 have hrdy : Ready (w.alloc ZP).drew g n := ready_drew (Ready.below h hb0)
 have hs1 := sl_h ad l.length c 252 (by omega) (by omega) 252 rfl
 obtain ⟨ad2, hs2, hrow2⟩ : ∃ ad2, (∀ w, (Instr.slice 96 (.slice (some ad) l.length c) (some (.int .i64 252)) none none).run Tryz.prog w = .ok (.slice (some ad2) (l.length - 252) (c - 252)) w) ∧ Row (w.alloc ZP).drew (w.alloc ZP).drew.heap.size (some ad2) (bv (l.drop 252)) :=
  ⟨ad.add 252, sl_l ad l.length c 252 (by omega) (by omega) 252 rfl, row_drop (rowX_row hr0) 252⟩
 have HRD := Lib.hid (show Calls Tryz.prog 76 #[.slice (some ad2) (l.length - 252) (c - 252)] (w.alloc ZP).drew fun e w' => e = .returned (.int .u32 (rd4 l 252 : Nat)) ∧ (w.alloc ZP).drew = w' by
  have := read_any (w.alloc ZP).drew (some ad2) (l.length - 252) (c - 252) (l.drop 252) (by simp) hrow2 (by rw [List.length_drop, hl]; omega) (by rw [List.length_drop]; omega)
  rwa [rd4_drop] at this)
 clear hrow2
 have hlt : (l.take 252).length = 252 := by rw [List.length_take, hl]; rfl
 have HRT := Lib.hid (right_any g n (w.alloc ZP).drew (some ad) 252 c (l.take 252) (rd4 l 252) hrdy h0 hn (by rw [hlt]; omega) hlt.symm (rowX_pre (m := l.drop 252) (by rw [List.take_append_drop]; exact hr0)) (Ready.lt hrdy))
 rw [hlt] at HRT
 have HL := Lib.hid hl
 clear hl hlt
 go_enter Tryz.func48, Tryz.ntmps48
 go_upto_region 3 with fail
 by_cases hsum : sum (l.take 252) = rd4 l 252
 ·rw [if_pos hsum] at hgE
  rw [decide_eq_true hsum] at HRT
  clear hsum
  have HGE := Lib.hid hgE
  clear hgE
  generalize rd4 l 252 = v at HRD HRT
  go_region_with (first
   | (go_at_call 76; (with_reducible refine HRD.out.mono ?_); rintro e w' ⟨rfl, rfl⟩)
   | (go_at_call 75; (with_reducible refine HRT.out.mono ?_); rintro e w2 ⟨rfl, d2, o2⟩))
  have hz2 : At w2 w.heap.size 69 #[.int .i64 0, .int .i64 0, .int .i64 0, .int .i64 0, .slice none 0 0] := (o2.block _ (At.lt hz0) (fun e => by injection e with e; omega)).trans hz0
  have ho2 : Only g w w2 := (Only.ofBelow hb0).drew.trans o2
  have hr2 : RowX w2 g (some ad) (bv l) := hr0.only o2
  have htold := told_any w2 ad l c _ rfl (rowX_row hr2) HL.out hc
  have hgd : got l = (told l).bind fun p => if err p = 0 ∧ body p = l.take 252 then some p else none := rfl
  have hsz2 : w.heap.size < w2.heap.size := At.lt hz2
  clear hs1 hs2 hb0 hz0 hr0 hr o2 h hrdy
  unfold ToldPost at htold
  cases ht : told l with
  | none =>
   rw [ht] at htold hgd
   have HGD := Lib.hid (show got l = none from hgd)
   clear hgd ht
   go_wp2_with fail
   refine htold.mono ?_
   rintro e w3 ⟨hb3, rfl⟩
   have hz3 := (hb3.block _ hsz2).trans hz2
   have hz4 : At (w3.alloc ZP) w.heap.size 69 #[.int .i64 0, .int .i64 0, .int .i64 0, .int .i64 0, .slice none 0 0] := (Below.heap_alloc w3 _ _ (At.lt hz3)).trans hz3
   have hbz : Below w2.heap.size w2 (w3.alloc ZP) := hb3.alloc hb3.size _
   have ho4 := ho2.trans (Only.ofBelow (g := g) hbz)
   have hd4 : Ready (w3.alloc ZP) g (n + 252) := Ready.below (.inr d2) hbz
   have k0 : (w3.alloc ZP).cell? ⟨w.heap.size, 0, none⟩ = some (.int .i64 0) := by rw [At.cell hz4]; rfl
   have z0 := At.frozen hz4 0
   have k1 : (w3.alloc ZP).cell? ⟨w.heap.size, 1, none⟩ = some (.int .i64 0) := by rw [At.cell hz4]; rfl
   have z1 := At.frozen hz4 1
   have k2 : (w3.alloc ZP).cell? ⟨w.heap.size, 2, none⟩ = some (.int .i64 0) := by rw [At.cell hz4]; rfl
   have z2 := At.frozen hz4 2
   have k3 : (w3.alloc ZP).cell? ⟨w.heap.size, 3, none⟩ = some (.int .i64 0) := by rw [At.cell hz4]; rfl
   have z3 := At.frozen hz4 3
   have k4 : (w3.alloc ZP).cell? ⟨w.heap.size, 4, none⟩ = some (.slice none 0 0) := by rw [At.cell hz4]; rfl
   have z4 := At.frozen hz4 4
   have HZ := Lib.hid (set5 hz4 rfl (.int .i64 0) (.int .i64 0) (.int .i64 0) (.int .i64 0) (.slice none 0 0))
   clear hz2 hz3 hz4 htold d2 ho2 hbz hb3
   go_wp2_with fail
   refine bodyPost_ret (results_cell_tmp_row rfl _ _ w.heap.size 69 _ (0, 0) _ rfl HZ.out Tryz.underlying69 rfl (by kernel_rfl)) rfl ?_
   refine ⟨⟨n + 252, by omega, by omega, ready5 hd4 (show g ≠ w.heap.size by omega) _ _ _ _ _⟩, only5 ho4 (Nat.le_refl _) _ _ _ _ _, ?_⟩
   rw [HGE.out, HGD.out]
   rfl
  | some p =>
   rw [ht] at htold hgd
   have HGD := Lib.hid (show got l = if err p = 0 ∧ body p = l.take 252 then some p else none from hgd)
   obtain ⟨hsm1, hsm2⟩ := told_small ht
   clear hgd ht
   go_wp2_with fail
   refine htold.mono ?_
   rintro e w3 ⟨hb3, A', c', rfl, hown3⟩
   have hz3 := (hb3.block _ hsz2).trans hz2
   have hz4 : At (w3.alloc (.cells #[.int .i64 p.kind, .int .i64 p.no, .int .i64 p.epoch, .int .i64 p.link, .slice A' p.cells.length c'] 69)) w.heap.size 69 #[.int .i64 0, .int .i64 0, .int .i64 0, .int .i64 0, .slice none 0 0] := (Below.heap_alloc w3 _ _ (At.lt hz3)).trans hz3
   have hp4 : PgAt (w3.alloc (.cells #[.int .i64 p.kind, .int .i64 p.no, .int .i64 p.epoch, .int .i64 p.link, .slice A' p.cells.length c'] 69)) w3.heap.size p A' c' := heap_alloc_new w3 _
   have hbz : Below w2.heap.size w2 (w3.alloc (.cells #[.int .i64 p.kind, .int .i64 p.no, .int .i64 p.epoch, .int .i64 p.link, .slice A' p.cells.length c'] 69)) := hb3.alloc hb3.size _
   have hown4 := hown3.alloc (.cells #[.int .i64 p.kind, .int .i64 p.no, .int .i64 p.epoch, .int .i64 p.link, .slice A' p.cells.length c'] 69)
   have hch := check_any (w3.alloc (.cells #[.int .i64 p.kind, .int .i64 p.no, .int .i64 p.epoch, .int .i64 p.link, .slice A' p.cells.length c'] 69)) p A' c' hown4.row hsm1 hsm2
   clear hz3 hz2 htold hb3
   by_cases he : err p = 0
   ·rw [he] at hch
    go_wp2_with fail
    refine hch.mono ?_
    rintro e w5 ⟨rfl, hb5⟩
    have hz5 := (hb5.block _ (At.lt hz4)).trans hz4
    have hp5 : PgAt w5 w3.heap.size p A' c' := (hb5.block _ (At.lt hp4)).trans hp4
    have hown5 := hown4.later hb5
    have hbz5 := Below.step hbz hb5
    obtain ⟨hro, hok⟩ := (err_zero p).1 he
    have his := isOf_any w5 p A' c' ad l c _ rfl hown5.row hro hok (rowX_row (hr2.below hbz5)) HL.out hc
    clear hz4 hp4 hown4 hbz hb5 hown3 hch
    have e0 : w5.cell? ⟨w3.heap.size, 0, none⟩ = some (.int .i64 p.kind) := by rw [At.cell hp5]; rfl
    have e1 : w5.cell? ⟨w3.heap.size, 1, none⟩ = some (.int .i64 p.no) := by rw [At.cell hp5]; rfl
    have e2 : w5.cell? ⟨w3.heap.size, 2, none⟩ = some (.int .i64 p.epoch) := by rw [At.cell hp5]; rfl
    have e3 : w5.cell? ⟨w3.heap.size, 3, none⟩ = some (.int .i64 p.link) := by rw [At.cell hp5]; rfl
    have e4 : w5.cell? ⟨w3.heap.size, 4, none⟩ = some (.slice A' p.cells.length c') := by rw [At.cell hp5]; rfl
    by_cases hbo : body p = l.take 252
    ·rw [decide_eq_true hbo] at his
     have HGY := Lib.hid (show got l = some p by rw [HGD.out, if_pos ⟨he, hbo⟩])
     clear hbo he
     go_wp2_with fail
     refine his.mono ?_
     rintro e w6 ⟨rfl, hb6⟩
     have hz6 := (hb6.block _ (At.lt hz5)).trans hz5
     have hp6 : PgAt w6 w3.heap.size p A' c' := (hb6.block _ (At.lt hp5)).trans hp5
     have hown6 := hown5.later hb6
     have hbz6 := Below.step hbz5 hb6
     have ho6 := ho2.trans (Only.ofBelow (g := g) hbz6)
     have hd6 : Ready w6 g (n + 252) := Ready.below (.inr d2) hbz6
     clear e0 e1 e2 e3 e4
     have e0 : w6.cell? ⟨w3.heap.size, 0, none⟩ = some (.int .i64 p.kind) := by rw [At.cell hp6]; rfl
     have e1 : w6.cell? ⟨w3.heap.size, 1, none⟩ = some (.int .i64 p.no) := by rw [At.cell hp6]; rfl
     have e2 : w6.cell? ⟨w3.heap.size, 2, none⟩ = some (.int .i64 p.epoch) := by rw [At.cell hp6]; rfl
     have e3 : w6.cell? ⟨w3.heap.size, 3, none⟩ = some (.int .i64 p.link) := by rw [At.cell hp6]; rfl
     have e4 : w6.cell? ⟨w3.heap.size, 4, none⟩ = some (.slice A' p.cells.length c') := by rw [At.cell hp6]; rfl
     have k0 : w6.cell? ⟨w.heap.size, 0, none⟩ = some (.int .i64 0) := by rw [At.cell hz6]; rfl
     have z0 := At.frozen hz6 0
     have k1 : w6.cell? ⟨w.heap.size, 1, none⟩ = some (.int .i64 0) := by rw [At.cell hz6]; rfl
     have z1 := At.frozen hz6 1
     have k2 : w6.cell? ⟨w.heap.size, 2, none⟩ = some (.int .i64 0) := by rw [At.cell hz6]; rfl
     have z2 := At.frozen hz6 2
     have k3 : w6.cell? ⟨w.heap.size, 3, none⟩ = some (.int .i64 0) := by rw [At.cell hz6]; rfl
     have z3 := At.frozen hz6 3
     have k4 : w6.cell? ⟨w.heap.size, 4, none⟩ = some (.slice none 0 0) := by rw [At.cell hz6]; rfl
     have z4 := At.frozen hz6 4
     have HZ := Lib.hid (set5 hz6 rfl (.int .i64 p.kind) (.int .i64 p.no) (.int .i64 p.epoch) (.int .i64 p.link) (.slice A' p.cells.length c'))
     have HOW := Lib.hid (own_more (own5 hown6 hsz2 (.int .i64 p.kind) (.int .i64 p.no) (.int .i64 p.epoch) (.int .i64 p.link) (.slice A' p.cells.length c')) (Nat.le_of_lt hsz2))
     clear hz5 hp5 hown5 hbz5 his hz6 hp6 hown6 hbz6 hb6 ho2 d2
     go_wp2_with fail
     refine bodyPost_ret (results_cell_tmp_row rfl _ _ w.heap.size 69 _ (0, 0) _ rfl HZ.out Tryz.underlying69 rfl (by kernel_rfl)) rfl ?_
     refine ⟨⟨n + 252, by omega, by omega, ready5 hd6 (show g ≠ w.heap.size by omega) _ _ _ _ _⟩, only5 ho6 (Nat.le_refl _) _ _ _ _ _, ?_⟩
     rw [HGE.out, HGY.out]
     exact ⟨A', c', rfl, HOW.out⟩
    ·rw [decide_eq_false hbo] at his
     have HGY := Lib.hid (show got l = none by rw [HGD.out, if_neg (fun q => hbo q.2)])
     clear hbo he
     go_wp2_with fail
     refine his.mono ?_
     rintro e w6 ⟨rfl, hb6⟩
     have hz6 := (hb6.block _ (At.lt hz5)).trans hz5
     have hbz6 := Below.step hbz5 hb6
     have ho6 := ho2.trans (Only.ofBelow (g := g) hbz6)
     have hd6 : Ready w6 g (n + 252) := Ready.below (.inr d2) hbz6
     clear e0 e1 e2 e3 e4
     have k0 : w6.cell? ⟨w.heap.size, 0, none⟩ = some (.int .i64 0) := by rw [At.cell hz6]; rfl
     have z0 := At.frozen hz6 0
     have k1 : w6.cell? ⟨w.heap.size, 1, none⟩ = some (.int .i64 0) := by rw [At.cell hz6]; rfl
     have z1 := At.frozen hz6 1
     have k2 : w6.cell? ⟨w.heap.size, 2, none⟩ = some (.int .i64 0) := by rw [At.cell hz6]; rfl
     have z2 := At.frozen hz6 2
     have k3 : w6.cell? ⟨w.heap.size, 3, none⟩ = some (.int .i64 0) := by rw [At.cell hz6]; rfl
     have z3 := At.frozen hz6 3
     have k4 : w6.cell? ⟨w.heap.size, 4, none⟩ = some (.slice none 0 0) := by rw [At.cell hz6]; rfl
     have z4 := At.frozen hz6 4
     have HZ := Lib.hid (set5 hz6 rfl (.int .i64 0) (.int .i64 0) (.int .i64 0) (.int .i64 0) (.slice none 0 0))
     clear hz5 hp5 hown5 hbz5 his hz6 hbz6 hb6 ho2 d2
     go_wp2_with fail
     refine bodyPost_ret (results_cell_tmp_row rfl _ _ w.heap.size 69 _ (0, 0) _ rfl HZ.out Tryz.underlying69 rfl (by kernel_rfl)) rfl ?_
     refine ⟨⟨n + 252, by omega, by omega, ready5 hd6 (show g ≠ w.heap.size by omega) _ _ _ _ _⟩, only5 ho6 (Nat.le_refl _) _ _ _ _ _, ?_⟩
     rw [HGE.out, HGY.out]
     rfl
   ·have HGY := Lib.hid (show got l = none by rw [HGD.out, if_neg (fun q => he q.1)])
    have hen : (err p != 0) = true := by simpa using he
    generalize err p = er at hch hen
    clear he
    go_wp2_with fail
    refine hch.mono ?_
    rintro e w5 ⟨rfl, hb5⟩
    have hz5 := (hb5.block _ (At.lt hz4)).trans hz4
    have hbz5 := Below.step hbz hb5
    have ho5 := ho2.trans (Only.ofBelow (g := g) hbz5)
    have hd5 : Ready w5 g (n + 252) := Ready.below (.inr d2) hbz5
    have k0 : w5.cell? ⟨w.heap.size, 0, none⟩ = some (.int .i64 0) := by rw [At.cell hz5]; rfl
    have z0 := At.frozen hz5 0
    have k1 : w5.cell? ⟨w.heap.size, 1, none⟩ = some (.int .i64 0) := by rw [At.cell hz5]; rfl
    have z1 := At.frozen hz5 1
    have k2 : w5.cell? ⟨w.heap.size, 2, none⟩ = some (.int .i64 0) := by rw [At.cell hz5]; rfl
    have z2 := At.frozen hz5 2
    have k3 : w5.cell? ⟨w.heap.size, 3, none⟩ = some (.int .i64 0) := by rw [At.cell hz5]; rfl
    have z3 := At.frozen hz5 3
    have k4 : w5.cell? ⟨w.heap.size, 4, none⟩ = some (.slice none 0 0) := by rw [At.cell hz5]; rfl
    have z4 := At.frozen hz5 4
    have HZ := Lib.hid (set5 hz5 rfl (.int .i64 0) (.int .i64 0) (.int .i64 0) (.int .i64 0) (.slice none 0 0))
    clear hz4 hp4 hown4 hown3 hbz hb5 hch hz5 hbz5 ho2 d2
    go_wp2_with fail
    refine bodyPost_ret (results_cell_tmp_row rfl _ _ w.heap.size 69 _ (0, 0) _ rfl HZ.out Tryz.underlying69 rfl (by kernel_rfl)) rfl ?_
    refine ⟨⟨n + 252, by omega, by omega, ready5 hd5 (show g ≠ w.heap.size by omega) _ _ _ _ _⟩, only5 ho5 (Nat.le_refl _) _ _ _ _ _, ?_⟩
    rw [HGE.out, HGY.out]
    rfl
 ·rw [if_neg hsum] at hgE
  rw [decide_eq_false hsum] at HRT
  clear hsum
  have HGE := Lib.hid hgE
  clear hgE
  generalize rd4 l 252 = v at HRD HRT
  go_region_with (first
   | (go_at_call 76; (with_reducible refine HRD.out.mono ?_); rintro e w' ⟨rfl, rfl⟩)
   | (go_at_call 75; (with_reducible refine HRT.out.mono ?_); rintro e w2 ⟨rfl, d2, o2⟩))
  have hz2 : At w2 w.heap.size 69 #[.int .i64 0, .int .i64 0, .int .i64 0, .int .i64 0, .slice none 0 0] := (o2.block _ (At.lt hz0) (fun e => by injection e with e; omega)).trans hz0
  have k0 : w2.cell? ⟨w.heap.size, 0, none⟩ = some (.int .i64 0) := by rw [At.cell hz2]; rfl
  have z0 := At.frozen hz2 0
  have k1 : w2.cell? ⟨w.heap.size, 1, none⟩ = some (.int .i64 0) := by rw [At.cell hz2]; rfl
  have z1 := At.frozen hz2 1
  have k2 : w2.cell? ⟨w.heap.size, 2, none⟩ = some (.int .i64 0) := by rw [At.cell hz2]; rfl
  have z2 := At.frozen hz2 2
  have k3 : w2.cell? ⟨w.heap.size, 3, none⟩ = some (.int .i64 0) := by rw [At.cell hz2]; rfl
  have z3 := At.frozen hz2 3
  have k4 : w2.cell? ⟨w.heap.size, 4, none⟩ = some (.slice none 0 0) := by rw [At.cell hz2]; rfl
  have z4 := At.frozen hz2 4
  have HZ := Lib.hid (set5 hz2 rfl (.int .i64 0) (.int .i64 0) (.int .i64 0) (.int .i64 0) (.slice none 0 0))
  have ho2 : Only g w w2 := (Only.ofBelow hb0).drew.trans o2
  clear hz2 hs1 hs2 hb0 hz0 hr0 hr o2
  go_wp2_with fail
  refine bodyPost_ret (results_cell_tmp_row rfl _ _ w.heap.size 69 _ (0, 0) _ rfl HZ.out Tryz.underlying69 rfl (by kernel_rfl)) rfl ?_
  refine ⟨⟨n + 252, by omega, by omega, ready5 (.inr d2) (show g ≠ w.heap.size by omega) _ _ _ _ _⟩, only5 ho2 (Nat.le_refl _) _ _ _ _ _, ?_⟩
  ·rw [HGE.out]
   rfl
end Go.Proofs.YtpidnkfcccboaaaGreat.PageGet
