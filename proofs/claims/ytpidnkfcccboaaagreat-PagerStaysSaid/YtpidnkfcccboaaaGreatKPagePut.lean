/- PageLay, PagePut. -/
import Derived.Test.YtpidnkfcccboaaaGreatKPageBytes
import Derived.BigRegion
import Derived.Deep.DeepCutAuto
import Derived.Deep.RegionWith
import Derived.Deep.WholeRow
import Derived.Laws.Rows
import Derived.Laws.Tables
import Derived.Lib.BufferWrite
import Derived.Lib.SlBuf
namespace Go.Proofs.YtpidnkfcccboaaaGreat.PageLay
open Go.RowKit Base PagePlain PageSmall PageBytes SumMem

def zs (n : Nat) : List UInt8 := List.replicate n 0
theorem zero_arr : ∃ Z : Array Value, (∀ w : World, (zeroValue 146).run Tryz.prog w = .ok (.agg Z) w) ∧ Z = (bv (zs 256)).toArray := by
 have h : (Tryz.prog.info? 146).map (fun i => (i.zero, i.size)) = some (some (.agg (bv (zs 256)).toArray), 256) := by kernel_rfl
 exact ⟨_, (zero_of_info h).1, rfl⟩
theorem info_arr {L : List UInt8} (hL : L.length = 256) : (Tryz.prog.info? 146).map (·.size) = some (bv L).toArray.size := by
 have h : (Tryz.prog.info? 146).map (·.size) = some 256 := by kernel_rfl
 rw [h]; simp [bv, hL]
theorem bv_all (L : List UInt8) : (bv L).toArray.all (·.oneCell') = true := by
 rw [Array.all_eq_true_iff_forall_mem]
 intro v hv
 exact bv_one L v (by simpa using hv)
theorem arr_u : Tryz.prog.underlying 146 = some (.array (Tryz.prog.arrayLen 146) (Tryz.prog.elem 146)) := by
 have hal : Tryz.prog.arrayLen 146 = 256 := by kernel_rfl
 have hel : Tryz.prog.elem 146 = 5 := by kernel_rfl
 rw [hal, hel]; exact Tryz.underlying146
theorem arr_len : Tryz.prog.arrayLen 146 = 256 := by kernel_rfl
theorem arr_el (w : World) : (sizeOf (Tryz.prog.elem 146)).run Tryz.prog w = .ok 1 w := by kernel_rfl
theorem cut_l (b n : Nat) (x : Int) (hx : x = n) (hn : n < 256) (w : World) : (Instr.sliceAt 146 (.pointer (some ⟨b, 0, none⟩)) (some (.int .i64 x)) none none).run Tryz.prog w = .ok (.slice (some ⟨b, n, none⟩) (256 - n) (256 - n)) w := by
 subst hx
 rw [run_sliceAt_array_l (P := Tryz.prog) w 146 ⟨b, 0, none⟩ arr_u .i64 (n : Int) (by omega) (by rw [arr_len]; omega), arr_len, arr_el]
 simp only [Result.andThen, slicedAt, Int.toNat_natCast, Nat.mul_one]
 rw [if_neg (by omega), add_zero_block]
theorem cut_h (b : Nat) (w : World) : (Instr.sliceAt 146 (.pointer (some ⟨b, 0, none⟩)) none (some (.int .i64 252)) none).run Tryz.prog w = .ok (.slice (some ⟨b, 0, none⟩) 252 256) w := by
 rw [run_sliceAt_array_h (P := Tryz.prog) w 146 ⟨b, 0, none⟩ arr_u .i64 252 (by omega) (by rw [arr_len]; omega), arr_len, arr_el]
 simp [Result.andThen, slicedAt, Addr.add]
theorem cut_all (b : Nat) (w : World) : (Instr.sliceAt 146 (.pointer (some ⟨b, 0, none⟩)) none none none).run Tryz.prog w = .ok (.slice (some ⟨b, 0, none⟩) 256 256) w := by
 rw [run_sliceAt_array_all (P := Tryz.prog) w 146 ⟨b, 0, none⟩ arr_u, arr_len, arr_el]
 simp [Result.andThen, slicedAt, Addr.add]
def fb (p : Pg) : Nat → List UInt8
 | 0 => [b8 p.kind.toNat, b8 p.cells.length]
 | j + 1 => fb p j ++ be4 (fld p j).toNat
theorem fb_len (p : Pg) (j : Nat) : (fb p j).length = 2 + 4 * j := by
 induction j with
 | zero => rfl
 | succ j ih => simp only [fb, List.length_append, ih, be4_len]; omega
theorem fb_all (p : Pg) : fb p 3 = hd p := by simp [fb, hd, fld]
def fil (p : Pg) (j : Nat) : List UInt8 := fb p j ++ zs (254 - 4 * j)
theorem fil_len (p : Pg) (j : Nat) (hj : j ≤ 3) : (fil p j).length = 256 := by simp only [fil, List.length_append, fb_len, zs, List.length_replicate]; omega
theorem fil_zero (p : Pg) : ((zs 256).set 0 (b8 p.kind.toNat)).set 1 (b8 p.cells.length) = fil p 0 := by
 have := set_two [] [] 254 (b8 p.kind.toNat) (b8 p.cells.length)
 simp only [List.nil_append, List.length_nil, List.append_nil, Nat.zero_add] at this
 exact this
theorem splice_head (A R c : List UInt8) : splice (A ++ R) A.length c = A ++ c ++ R.drop c.length := by
 unfold splice
 rw [List.take_left, List.drop_append, List.drop_of_length_le (by omega)]
 simp
theorem fil_succ (p : Pg) (j : Nat) (hj : j < 3) : splice (fil p j) (2 + 4 * j) (be4 (fld p j).toNat) = fil p (j + 1) := by
 have := splice_head (fb p j) (zs (254 - 4 * j)) (be4 (fld p j).toNat)
 rw [fb_len] at this
 unfold fil
 rw [this]
 simp only [fb, be4_len, zs, List.drop_replicate]
 rw [show 254 - 4 * j - 4 = 254 - 4 * (j + 1) by omega]
theorem fil_all (p : Pg) : fil p 3 = prt p 0 ++ zs 4 := by
 unfold fil prt
 rw [fb_all]
 simp only [List.take_zero, tab, rev, room_nil, List.append_nil, zs, List.append_assoc, List.replicate_append_replicate]
theorem setRow_cells_at {w : World} {g : Nat} {t : TypeId} {cs : Array Value} (h : At w g t cs) (cs' : Array Value) : At (w.setRow g cs') g t cs' := by
 unfold At at h ⊢
 simp [World.setRow, Array.getElem?_modify, h]
theorem bv_splice (L : List UInt8) (o : Nat) (q : ByteArray) : ((bv L).toArray.toList.take o ++ Lib.byteCells q.data.toList ++ (bv L).toArray.toList.drop (o + q.size)).toArray = (bv (splice L o (bl q))).toArray := by
 unfold splice
 rw [bl_len]
 simp only [bv, List.map_append, List.map_take, List.map_drop]
 rfl
theorem below_setRow {W w : World} {B g : Nat} (h : Below B W w) (hg : B ≤ g) (cs : Array Value) : Below B W (w.setRow g cs) :=
 ⟨h.os, h.tape, h.output, by simpa using h.size, fun i hi => (setRow_other w g i cs (by omega)).trans (h.block i hi)⟩
abbrev PgAt (w : World) (g : Nat) (p : Pg) (A : Option Addr) (c : Nat) : Prop := At w g 69 #[.int .i64 p.kind, .int .i64 p.no, .int .i64 p.epoch, .int .i64 p.link, .slice A p.cells.length c]
/-- what stands while lay runs: the page, its own two arrays -/
structure LRel (W : World) (p : Pg) (A : Option Addr) (c : Nat) (l : List UInt8) (w : World) : Prop where
 pg : PgAt w W.heap.size p A c
 z : Arr w (W.heap.size + 1) 146 (zs 256)
 b : Arr w (W.heap.size + 1 + 1) 146 l
 bl : Below W.heap.size W w
theorem LRel.set {W w : World} {p : Pg} {A : Option Addr} {c : Nat} {l : List UInt8} (h : LRel W p A c l w) (k : Nat) (x : UInt8) : LRel W p A c (l.set k x) (w.setCell ⟨W.heap.size + 1 + 1, k, none⟩ (.int .u8 (x.toNat : Int))) :=
 ⟨(Below.heap_setCell _ _ _ _ (by simp; omega)).trans h.pg, (Below.heap_setCell _ _ _ _ (by simp)).trans h.z, Arr.set h.b k x, h.bl.setCell (by simp; omega) _⟩
theorem LRel.only {W w w' : World} {p : Pg} {A : Option Addr} {c : Nat} {l l' : List UInt8} (h : LRel W p A c l w) (ho : Only (W.heap.size + 1 + 1) w w') (hb : Arr w' (W.heap.size + 1 + 1) 146 l') : LRel W p A c l' w' :=
 ⟨(ho.block _ (At.lt h.pg) (by simp; omega)).trans h.pg, (ho.block _ (At.lt h.z) (by simp)).trans h.z, hb, h.bl.trans (ho.below (by omega) (At.lt h.b))⟩
theorem LRel.row_set {W w : World} {p : Pg} {A : Option Addr} {c : Nat} {l : List UInt8} (h : LRel W p A c l w) (l' : List UInt8) : LRel W p A c l' (w.setRow (W.heap.size + 1 + 1) (bv l').toArray) :=
 ⟨(setRow_other w _ _ _ (by omega)).trans h.pg, (setRow_other w _ _ _ (by omega)).trans h.z, setRow_cells_at h.b _, below_setRow h.bl (by omega) _⟩
theorem LRel.drew {W w : World} {p : Pg} {A : Option Addr} {c : Nat} {l : List UInt8} (h : LRel W p A c l w) : LRel W p A c l w.drew := ⟨h.pg, h.z, h.b, h.bl.drew⟩
theorem LRel.row {W w : World} {p : Pg} {A : Option Addr} {c : Nat} {l : List UInt8} (h : LRel W p A c l w) (hr : Row W W.heap.size A (strs p.cells)) : Row w W.heap.size A (strs p.cells) := hr.below h.bl
theorem lrel_new (W : World) (p : Pg) (A : Option Addr) (c : Nat) : LRel W p A c (zs 256) (((W.alloc (.cells #[.int .i64 p.kind, .int .i64 p.no, .int .i64 p.epoch, .int .i64 p.link, .slice A p.cells.length c] 69)).alloc (.cells (bv (zs 256)).toArray 146)).alloc (.cells (bv (zs 256)).toArray 146)) := by
 refine ⟨?_, ?_, ?_, (((Below.refl _ _).alloc (Nat.le_refl _) _).alloc (by simp) _).alloc (by simp; omega) _⟩
 ·show _ = _
  rw [Below.heap_alloc _ _ _ (by simp; omega), Below.heap_alloc _ _ _ (by simp), heap_alloc_new]
 ·have := heap_alloc_new (W.alloc (.cells #[.int .i64 p.kind, .int .i64 p.no, .int .i64 p.epoch, .int .i64 p.link, .slice A p.cells.length c] 69)) (.cells (bv (zs 256)).toArray 146)
  show _ = _
  rw [Below.heap_alloc _ _ _ (by simp)]
  simpa using this
 ·have := heap_alloc_new ((W.alloc (.cells #[.int .i64 p.kind, .int .i64 p.no, .int .i64 p.epoch, .int .i64 p.link, .slice A p.cells.length c] 69)).alloc (.cells (bv (zs 256)).toArray 146)) (.cells (bv (zs 256)).toArray 146)
  show _ = _
  simpa using this

set_option maxRecDepth 100000 in
set_option maxHeartbeats 1600000 in
theorem lay_any (w : World) (p : Pg) (A : Option Addr) (c : Nat) (hr : Row w w.heap.size A (strs p.cells)) (hro : room p.cells ≤ 236) (hg : PgOk p) :
  Calls Tryz.prog 107 #[pv p A c] w fun e w' => e = .returned (.agg (bv (body p ++ zs 4)).toArray) ∧ Below w.heap.size w w' := by
 obtain ⟨Z, hZ, hZe⟩ := zero_arr
 have HR := Lib.hid (lrel_new w p A c)
 rw [← hZe] at HR
 have HZ := Lib.hid hZe
 clear hZe
 obtain ⟨⟨hk1, hk2⟩, hfl⟩ := (good_iff p).1 hg
 have HFL := Lib.hid hfl
 clear hfl hg
 have hlen : 2 * p.cells.length + tot p.cells ≤ 236 := hro
 go_enter Tryz.func107, Tryz.ntmps107
 go_upto_region 2 with fail
 obtain ⟨w1, hw1⟩ : ∃ v, v = ((w.alloc (.cells #[.int .i64 p.kind, .int .i64 p.no, .int .i64 p.epoch, .int .i64 p.link, .slice A p.cells.length c] 69)).alloc (.cells Z 146)).alloc (.cells Z 146) := ⟨_, rfl⟩
 rw [← hw1] at HR ⊢
 have HW1 := Lib.hid hw1
 clear hw1
 have hrel0 := HR.out
 have c0 : w1.cell? ⟨w.heap.size, 0, none⟩ = some (.int .i64 p.kind) := by rw [hrel0.pg.cell]; rfl
 have c4 : w1.cell? ⟨w.heap.size, 4, none⟩ = some (.slice A p.cells.length c) := by rw [hrel0.pg.cell]; rfl
 have d0 : w1.cell? ⟨w.heap.size + 1 + 1, 0, none⟩ = some (.int .u8 0) := by rw [hrel0.b.cell 0 (by simp [zs])]; simp [zs]
 have d1 : w1.cell? ⟨w.heap.size + 1 + 1, 1, none⟩ = some (.int .u8 0) := by rw [hrel0.b.cell 1 (by simp [zs])]; simp [zs]
 have f0 : w1.frozen? ⟨w.heap.size + 1 + 1, 0, none⟩ = false := hrel0.b.frozen 0
 have f1 : w1.frozen? ⟨w.heap.size + 1 + 1, 1, none⟩ = false := hrel0.b.frozen 1
 have HS := Lib.hid (fil_zero p ▸ (hrel0.set 0 (b8 p.kind.toNat)).set 1 (b8 p.cells.length))
 clear hrel0
 have HK1 := Lib.hid (show ((b8 p.kind.toNat).toNat : Int) = p.kind by rw [b8_nat]; omega)
 have HK2 := Lib.hid (show ((b8 p.cells.length).toNat : Int) = p.cells.length by rw [b8_nat]; omega)
 go_cut [10] from 10 to 18 (fun s10 wx => s10 = s10 ∧ LRel w p A c (fil p 0) wx)
 case first =>
  go_region
  go_wp2_with fail
  go_meet
  refine ⟨trivial, ?_⟩
  have := HS.out
  rw [HK1.out, HK2.out] at this
  exact this.drew
 case rest =>
  obtain ⟨_, hrel1⟩ := hcut
  clear c0 c4 d0 d1 f0 f1 HS HK1 HK2 HR HW1 hZ HZ
  have HP := Lib.hid hrel1.pg
  have hfd := fields_any wc p A c
  have e0 : wc.cell? ⟨w.heap.size, 0, none⟩ = some (.int .i64 p.kind) := by rw [hrel1.pg.cell]; rfl
  have e1 : wc.cell? ⟨w.heap.size, 1, none⟩ = some (.int .i64 p.no) := by rw [hrel1.pg.cell]; rfl
  have e2 : wc.cell? ⟨w.heap.size, 2, none⟩ = some (.int .i64 p.epoch) := by rw [hrel1.pg.cell]; rfl
  have e3 : wc.cell? ⟨w.heap.size, 3, none⟩ = some (.int .i64 p.link) := by rw [hrel1.pg.cell]; rfl
  have e4 : wc.cell? ⟨w.heap.size, 4, none⟩ = some (.slice A p.cells.length c) := by rw [hrel1.pg.cell]; rfl
  go_wp2_with fail
  refine hfd.mono ?_
  rintro e w2 ⟨rfl, hb2⟩
  clear hfd e0 e1 e2 e3 e4
  have hrel2 : LRel w p A c (fil p 0) w2 := ⟨(hb2.block _ (At.lt hrel1.pg)).trans hrel1.pg, (hb2.block _ (At.lt hrel1.z)).trans hrel1.z, hrel1.b.below hb2, Below.step hrel1.bl hb2⟩
  clear hb2 hrel1
  go_wp2_with fail
  go_loopw [21] (fun i wr => ∃ j : Nat, j ≤ 3 ∧ i = .int .i64 j ∧ LRel w p A c (fil p j) wr) (fun i _ => 3 - (intOf i).toNat)
  case atStart => exact ⟨0, by omega, rfl, hrel2⟩
  case round =>
   obtain ⟨j, hj, rfl, hrel⟩ := hrel
   clear hrel2
   by_cases hlt : j < 3
   ·have hfj : ∃ z : Nat, fld p j = (z : Int) ∧ z < 4294967296 ∧ ∀ w, (Instr.index 178 (.agg #[.int .i64 p.no, .int .i64 p.epoch, .int .i64 p.link]) (.int .i64 (j : Int))).run Tryz.prog w = .ok (.int .i64 (z : Int)) w := by
     obtain ⟨a1, a2⟩ := HFL.out j hlt
     refine ⟨(fld p j).toNat, by omega, by omega, ?_⟩
     rw [show (((fld p j).toNat : Nat) : Int) = fld p j by omega]
     match j, hlt with
     | 0, _ => exact fun w => by kernel_rfl
     | 1, _ => exact fun w => by kernel_rfl
     | 2, _ => exact fun w => by kernel_rfl
    obtain ⟨z, hz, hz2, hix⟩ := hfj
    have HN := Lib.hid (fil_succ p j hlt)
    rw [hz, Int.toNat_natCast] at HN
    have HFj := Lib.hid (fil_len p j hj)
    clear hz
    generalize fil p j = l at *
    have hcut := cut_l (w.heap.size + 1 + 1) (2 + 4 * j) (2 + (j : Int) * 4) (by omega) (by omega)
    go_wp2_with fail
    refine (write_any wr (w.heap.size + 1 + 1) (2 + 4 * j) _ _ z _ l hrel.b (by rw [HFj.out]; omega) (by omega) hz2).mono ?_
    rintro e w3 ⟨rfl, ha, ho⟩
    rw [HN.out] at ha
    have hrel3 := hrel.only ho ha
    clear ha ho hrel
    go_wp2_with fail
    go_roundw
    case rel => exact ⟨j + 1, by omega, by go_num, hrel3⟩
    case measure => simp [intOf]; omega
   ·obtain rfl : j = 3 := by omega
    rw [fil_all] at hrel
    clear HFL
    have f4 : wr.cell? ⟨w.heap.size, 4, none⟩ = some (.slice A p.cells.length c) := by rw [hrel.pg.cell]; rfl
    have hrow := hrel.row hr
    go_wp2_with fail
    have hrel0 := hrel
    clear hrel f4 hrow
    go_loopw [6, 36] (fun v i wx => ∃ k : Nat, k ≤ p.cells.length ∧ i = .int .i64 k ∧ v = .int .i64 ((252 - tot (p.cells.take k) : Nat) : Int) ∧ LRel w p A c (prt p k ++ zs 4) wx) (fun _ i _ => p.cells.length - (intOf i).toNat)
    case atStart => exact ⟨0, by omega, rfl, by simp [tot], hrel0⟩
    case round =>
     obtain ⟨k, hk, rfl, rfl, hrel⟩ := hrel
     clear hrel0
     by_cases hlt : k < p.cells.length
     ·have h1 := room_le p.cells (k + 1)
      have h2 : room (p.cells.take k) = 2 * k + tot (p.cells.take k) := by unfold room; rw [List.length_take, Nat.min_eq_left (by omega)]
      have h3 := room_take p.cells k hlt
      have h4 := tot_take p.cells k hlt
      have HT := Lib.hid (tot_take p.cells k hlt)
      have HP := Lib.hid (prt_succ p k hlt hro (zs 4))
      have hL : (prt p k ++ zs 4).length = 256 := by rw [List.length_append, prt_len p k hk hro]; rfl
      have HL := Lib.hid hL
      clear hL
      rw [h4] at HP
      rw [h3, h2] at h1
      obtain ⟨ad, hA, hb, hc⟩ := strs_get (hrel.row hr) k hlt
      generalize p.cells[k] = q at *
      generalize tot (p.cells.take k) = T at *
      generalize prt p k ++ zs 4 = L at *
      have hn : 2 * k + T + (2 + q.size) ≤ 236 := by omega
      have hcut := cut_l (w.heap.size + 1 + 1) (252 - (T + q.size)) (((252 - T : Nat) : Int) - (q.size : Int)) (by omega) (by omega)
      have hcp := Lib.run_copy_row_string (P := Tryz.prog) wr 96 9 3 5 (w.heap.size + 1 + 1) (252 - (T + q.size)) (256 - (252 - (T + q.size))) (256 - (252 - (T + q.size))) q _ 146 Tryz.underlying96 (by kernel_rfl) hrel.b (by omega) (by simp only [List.size_toArray, bv_len, HL.out]; omega)
      subst hA
      clear h1 h2 h3 h4
      rw [bv_splice] at hcp
      have hrel3 := hrel.row_set (splice L (252 - (T + q.size)) (bl q))
      have HL3 := Lib.hid (show (splice L (252 - (T + q.size)) (bl q)).length = 256 by
       unfold splice
       simp only [List.length_append, List.length_take, List.length_drop, bl_len, HL.out]; omega)
      generalize splice L (252 - (T + q.size)) (bl q) = L3 at *
      generalize wr.setRow (w.heap.size + 1 + 1) (bv L3).toArray = w3 at *
      have d0 := hrel3.b.cell (14 + k * 2) (by rw [HL3.out]; omega)
      have d1 := hrel3.b.cell (14 + k * 2 + 1) (by rw [HL3.out]; omega)
      have f0 := hrel3.b.frozen (14 + k * 2)
      have f1 := hrel3.b.frozen (14 + k * 2 + 1)
      generalize L3[14 + k * 2]'_ = x0 at d0
      generalize L3[14 + k * 2 + 1]'_ = x1 at d1
      have HS := Lib.hid ((hrel3.set (14 + k * 2) (b8 (252 - (T + q.size)))).set (14 + k * 2 + 1) (b8 q.size))
      have HB0 := Lib.hid (show ((b8 (252 - (T + q.size))).toNat : Int) = ((252 - T : Nat) : Int) - (q.size : Int) by rw [b8_nat]; omega)
      have HB1 := Lib.hid (show ((b8 q.size).toNat : Int) = (q.size : Int) by rw [b8_nat]; omega)
      clear hrel hrel3
      go_wp2_with (at_builtin; refine Lib.wpList_copy_run _ rfl _ _ 96 9 rfl _ _ rfl rfl hcp ?_)
      go_roundw
      case rel =>
       refine ⟨k + 1, by omega, by go_num, ?_, ?_⟩
       ·rw [HT.out]; go_num
       ·have h5 := HS.out
        rw [HB0.out, HB1.out] at h5
        have h6 := HP.out
        rw [show 14 + 2 * k = 14 + k * 2 by omega] at h6
        rw [h6] at h5
        exact h5
      case measure => simp [intOf]; omega
     ·obtain rfl : k = p.cells.length := by omega
      have hL : (body p ++ zs 4).length = 256 := by rw [List.length_append, body_len p hro]; rfl
      have hi := info_arr hL
      have hb : Arr wr (w.heap.size + 1 + 1) 146 (body p ++ zs 4) := hrel.b
      have hz := hrel.z
      have h1 := bv_all (body p ++ zs 4)
      have hsz : (bv (zs 256)).toArray.size = (bv (body p ++ zs 4)).toArray.size := by simp only [List.size_toArray, bv_len, hL]; rfl
      have HA := Lib.hid (setRow_cells_at hz (bv (body p ++ zs 4)).toArray)
      have HB := Lib.hid (below_setRow hrel.bl (show w.heap.size ≤ w.heap.size + 1 by omega) (bv (body p ++ zs 4)).toArray)
      clear hrel
      generalize hLe : body p ++ zs 4 = L at *
      have HLe := Lib.hid hLe
      clear hLe
      generalize zs 256 = O at *
      go_wp2_with (first
       | (refine wpList_load_row rfl 146 (.tmp 3) rfl (w.heap.size + 1 + 1) rfl 146 _ (0, 0) _ hb Tryz.underlying146 rfl hi ?_)
       | (refine wpList_store_row rfl 146 (.tmp 2) (.tmp 63) rfl (w.heap.size + 1) _ rfl rfl 146 _ hz hi hsz h1 ?_))
      refine bodyPost_ret (results_cell_row rfl _ _ (w.heap.size + 1) 146 _ (0, 0) _ rfl HA.out Tryz.underlying146 rfl hi) rfl ?_
      exact ⟨by rw [HLe.out], HB.out⟩
end Go.Proofs.YtpidnkfcccboaaaGreat.PageLay
namespace Go.Proofs.YtpidnkfcccboaaaGreat.PagePut
open Go.RowKit Base PagePlain PageSmall PageBytes PageLay SumMem SumFill SumOf SumPlain

theorem rowX_row {w : World} {g : Nat} {A : Option Addr} {vs : List Value} (h : RowX w g A vs) : Row w w.heap.size A vs := fun k v hv => by
 obtain ⟨ad, e, hb, _, hc⟩ := h k v hv
 exact ⟨ad, e, hb, hc⟩
theorem rowX_pre {w : World} {g : Nat} {A : Option Addr} {l m : List UInt8} (h : RowX w g A (bv (l ++ m))) : RowX w g A (bv l) := fun k v hv => h k v (by
 have hk : k < (bv l).length := (List.getElem?_eq_some_iff.1 hv).1
 rw [bv_append, List.getElem?_append_left hk]; exact hv)
theorem done_grown {w w' : World} {g : Nat} {n : Int} {row : Option Nat} (h : Done w g n) (hb : w.grownBy w' row) (hg : some g ≠ row) : Done w' g n := Sm.grown h hb hg
theorem ready_drew {w : World} {g : Nat} {n : Int} (h : Ready w g n) : Ready w.drew g n := by
 rcases h with ⟨T, h⟩ | h
 ·exact .inl ⟨T, h.drew⟩
 ·exact .inr (Sm.drew h)
theorem sum_at_end (p : Pg) (h : room p.cells ≤ 236) (n : Nat) : splice (body p ++ zs 4) 252 (be4 n) = body p ++ be4 n := by
 have := splice_head (body p) (zs 4) (be4 n)
 rw [body_len p h] at this
 rw [this]
 simp [be4, zs]
theorem err_zero (p : Pg) : err p = 0 ↔ room p.cells ≤ 236 ∧ PgOk p := by
 unfold err
 by_cases h : room p.cells ≤ 236
 ·rw [if_pos h]
  by_cases g : PgOk p
  ·rw [if_pos g]; exact ⟨fun _ => ⟨h, g⟩, fun _ => rfl⟩
  ·rw [if_neg g]; exact ⟨fun e => (by cases e), fun e => absurd e.2 g⟩
 ·rw [if_neg h]; exact ⟨fun e => (by cases e), fun e => absurd e.1 h⟩
theorem only_new {a b c : World} {g x : Nat} (h : Only g a b) (k : Only x b c) (hx : a.heap.size ≤ x) : Only g a c :=
 ⟨k.os.trans h.os, k.tape.trans h.tape, k.output.trans h.output, Nat.le_trans h.size k.size, fun i hi hne => (k.block i (Nat.lt_of_lt_of_le hi h.size) (fun e => by injection e with e; omega)).trans (h.block i hi hne)⟩
/-- what Put comes to -/
def PutPost (w : World) (g : Nat) (n : Int) (p : Pg) (e : Ending) (w' : World) : Prop :=
 (err p = 0 → ∃ b, e = .returned (.tuple #[.slice (some ⟨b, 0, none⟩) 256 256, .int .i64 0]) ∧ w.heap.size ≤ b ∧ Arr w' b 146 (page p) ∧ Ready w' g (n + 252) ∧ Only g w w') ∧
 (err p ≠ 0 → e = .returned (.tuple #[.slice none 0 0, .int .i64 (err p)]) ∧ Ready w' g n ∧ Only g w w')

set_option maxRecDepth 100000 in
set_option maxHeartbeats 1600000 in
theorem put_bad (g : Nat) (n : Int) (w : World) (p : Pg) (A : Option Addr) (c : Nat) (h : Ready w g n) (hr : RowX w g A (strs p.cells)) (hl : p.cells.length ≤ 1000) (hz : ∀ q ∈ p.cells, q.size ≤ 1000) (he : err p ≠ 0) :
  Calls Tryz.prog 81 #[.pointer (some ⟨g, 0, none⟩), pv p A c] w fun e w' => e = .returned (.tuple #[.slice none 0 0, .int .i64 (err p)]) ∧ Ready w' g n ∧ Only g w w' := by
 have hb : Below w.heap.size w (w.alloc (.cells #[.int .i64 p.kind, .int .i64 p.no, .int .i64 p.epoch, .int .i64 p.link, .slice A p.cells.length c] 69)) := (Below.refl _ _).alloc (Nat.le_refl _) _
 have hc := check_any (w.alloc (.cells #[.int .i64 p.kind, .int .i64 p.no, .int .i64 p.epoch, .int .i64 p.link, .slice A p.cells.length c] 69)) p A c ((rowX_row hr).belowSize hb) hl hz
 have HH := Lib.hid h
 generalize err p = er at *
 have hne : (er != 0) = true := by simpa using he
 clear hr hl hz h
 simp only [pv] at *
 go_enter Tryz.func81, Tryz.ntmps81
 go_wp2_with fail
 refine hc.mono ?_
 rintro e w1 ⟨rfl, hb1⟩
 clear hc
 have hb2 := Below.step hb hb1
 clear hb hb1
 go_wp2_with fail
 go_ret2
 exact ⟨rfl, Ready.below HH.out hb2, Only.ofBelow hb2⟩
set_option maxRecDepth 100000 in
set_option maxHeartbeats 1600000 in
theorem put_good (g : Nat) (n : Int) (w : World) (p : Pg) (A : Option Addr) (c : Nat) (h : Ready w g n) (h0 : 0 ≤ n) (hn : n ≤ 900000000) (hr : RowX w g A (strs p.cells)) (hl : p.cells.length ≤ 1000) (hz : ∀ q ∈ p.cells, q.size ≤ 1000) (he : err p = 0) :
  Calls Tryz.prog 81 #[.pointer (some ⟨g, 0, none⟩), pv p A c] w fun e w' => ∃ b, e = .returned (.tuple #[.slice (some ⟨b, 0, none⟩) 256 256, .int .i64 0]) ∧ w.heap.size ≤ b ∧ Arr w' b 146 (page p) ∧ Ready w' g (n + 252) ∧ Only g w w' := by
 obtain ⟨hro, hok⟩ := (err_zero p).1 he
 have hgl := Ready.lt h
 have hpa : PgAt (w.alloc (.cells #[.int .i64 p.kind, .int .i64 p.no, .int .i64 p.epoch, .int .i64 p.link, .slice A p.cells.length c] 69)) w.heap.size p A c := heap_alloc_new w _
 have hb : Below w.heap.size w (w.alloc (.cells #[.int .i64 p.kind, .int .i64 p.no, .int .i64 p.epoch, .int .i64 p.link, .slice A p.cells.length c] 69)) := (Below.refl _ _).alloc (Nat.le_refl _) _
 have hc := check_any (w.alloc (.cells #[.int .i64 p.kind, .int .i64 p.no, .int .i64 p.epoch, .int .i64 p.link, .slice A p.cells.length c] 69)) p A c ((rowX_row hr).belowSize hb) hl hz
 rw [he] at hc
 go_enter Tryz.func81, Tryz.ntmps81
 go_wp2_with fail
 refine hc.mono ?_
 rintro e w1 ⟨rfl, hb1⟩
 clear hc
 have hp1 : PgAt w1 w.heap.size p A c := (hb1.block _ (At.lt hpa)).trans hpa
 have hb2 := Below.step hb hb1
 clear hb hb1 hpa
 have e0 : w1.cell? ⟨w.heap.size, 0, none⟩ = some (.int .i64 p.kind) := by rw [hp1.cell]; rfl
 have e1 : w1.cell? ⟨w.heap.size, 1, none⟩ = some (.int .i64 p.no) := by rw [hp1.cell]; rfl
 have e2 : w1.cell? ⟨w.heap.size, 2, none⟩ = some (.int .i64 p.epoch) := by rw [hp1.cell]; rfl
 have e3 : w1.cell? ⟨w.heap.size, 3, none⟩ = some (.int .i64 p.link) := by rw [hp1.cell]; rfl
 have e4 : w1.cell? ⟨w.heap.size, 4, none⟩ = some (.slice A p.cells.length c) := by rw [hp1.cell]; rfl
 have hlay := lay_any w1 p A c ((rowX_row hr).belowSize hb2) hro hok
 go_wp2_with fail
 refine hlay.mono ?_
 rintro e w2 ⟨rfl, hb3⟩
 clear hlay e0 e1 e2 e3 e4 hp1
 have hb4 := Below.step hb2 hb3
 clear hb2 hb3
 have h2 := Ready.below h hb4
 have hL : (body p ++ zs 4).length = 256 := by rw [List.length_append, body_len p hro]; rfl
 have hi := info_arr hL
 obtain ⟨Z, hZ, hZe⟩ := zero_arr
 have h1 := bv_all (body p ++ zs 4)
 have hsz : Z.size = (bv (body p ++ zs 4)).toArray.size := by rw [hZe]; simp only [List.size_toArray, bv_len, hL]; rfl
 clear hZe
 have HLe : Arr ((w2.alloc (.cells Z 146)).setRow w2.heap.size (bv (body p ++ zs 4)).toArray) w2.heap.size 146 (body p ++ zs 4) := setRow_cells_at (heap_alloc_new w2 _) _
 have hb5 : Below w.heap.size w ((w2.alloc (.cells Z 146)).setRow w2.heap.size (bv (body p ++ zs 4)).toArray) := below_setRow (hb4.alloc hb4.size _) hb4.size _
 have hg2 : g < w2.heap.size := Nat.lt_of_lt_of_le hgl hb4.size
 have hr5 : Ready ((w2.alloc (.cells Z 146)).setRow w2.heap.size (bv (body p ++ zs 4)).toArray) g n := Ready.below h hb5
 go_upto_region 5 with (first
  | (refine wpList_store_row rfl 146 (.tmp 7) (.tmp 14) rfl w2.heap.size _ rfl rfl 146 _ (heap_alloc_new w2 _) hi hsz h1 ?_))
 have hbw := hb4.size
 clear hb4 h2 hZ h hL hi hsz h1
 generalize (w2.alloc (.cells Z 146)).setRow w2.heap.size (bv (body p ++ zs 4)).toArray = w3 at *
 generalize w2.heap.size = b at *
 have hne : b ≠ g := by omega
 have hx : RowX w3.drew g (some ⟨b, 0, none⟩) (bv (body p)) := rowX_pre (Arr.rowX HLe hne)
 have hcl := cut_l b 252 252 rfl (by omega)
 have hch := cut_h b
 have hca := cut_all b
 have hbl : (body p).length ≤ 1000000 := by rw [body_len p hro]; omega
 have hbe := (body_len p hro).symm
 have hsl := sum_lt (body p)
 have hg3 : g < w3.drew.heap.size := Ready.lt hr5
 have hse := sum_at_end p hro (sum (body p))
 have hll : 252 + 4 ≤ (body p ++ zs 4).length := by rw [List.length_append, ← hbe]; simp [zs]
 have hp : body p ++ be4 (sum (body p)) = page p := rfl
 rw [hp] at hse
 have HBE := Lib.hid hbe
 clear hbe
 have HSE := Lib.hid hse
 have HHX := Lib.hid hx
 have HHR := Lib.hid hr5
 have HHL := Lib.hid (show Arr w3.drew b 146 (body p ++ zs 4) from HLe)
 clear hse hp hx hr5 HLe
 go_region_with (first
  | (go_at_call 103; (with_reducible refine (of_any g n _ (some ⟨b, 0, none⟩) 252 256 (body p) (ready_drew HHR.out) h0 hn hbl HBE.out HHX.out hg3).mono ?_); rintro e w4 ⟨rfl, d4, o4⟩)
  | (go_at_call 111; (with_reducible refine (write_any _ b 252 4 4 _ 146 (body p ++ zs 4) (Arr.only HHL.out o4 hne) hll (Nat.le_refl 4) hsl).mono ?_); rintro e w5 ⟨rfl, a5, o5⟩))
 all_goals
  clear hcl hch
  rw [HSE.out] at a5
  rw [← HBE.out] at d4
  go_wp2_with fail
  go_ret2
  exact ⟨b, rfl, hbw, a5, .inr (done_grown d4 o5 (fun e => hne (Option.some.inj e).symm)), only_new ((Only.ofBelow hb5).drew.trans o4) o5 hbw⟩
theorem put_any (g : Nat) (n : Int) (w : World) (p : Pg) (A : Option Addr) (c : Nat) (h : Ready w g n) (h0 : 0 ≤ n) (hn : n ≤ 900000000) (hr : RowX w g A (strs p.cells)) (hl : p.cells.length ≤ 1000) (hz : ∀ q ∈ p.cells, q.size ≤ 1000) :
  Calls Tryz.prog 81 #[.pointer (some ⟨g, 0, none⟩), pv p A c] w (PutPost w g n p) := by
 by_cases he : err p = 0
 ·exact (put_good g n w p A c h h0 hn hr hl hz he).mono fun _ _ h => ⟨fun _ => h, fun q => absurd he q⟩
 ·exact (put_bad g n w p A c h hr hl hz he).mono fun _ _ h => ⟨fun q => absurd q he, fun _ => h⟩
end Go.Proofs.YtpidnkfcccboaaaGreat.PagePut
