/- The contract of lay: a page's bytes, with noughts where the sum will be. -/
import Derived.Test.YtcnblgienombeaaPageBytes
import Derived.Laws.Rows
import Derived.Laws.Tables
import Derived.Lib.BufferWrite
import Derived.Lib.SlBuf
import Derived.Deep.WholeRow
import Derived.BigRegion
import Derived.Deep.DeepCutAuto
import Derived.Deep.RegionWith
namespace Go.Proofs.Ytcnblgienombeaa.PageLay
open Go.RowKit Base PagePlain PageSmall PageBytes SumMem

def zs (n : Nat) : List UInt8 := List.replicate n 0
theorem zero_arr : ∃ Z : Array Value, (∀ w : World, (zeroValue 83).run Try.prog w = .ok (.agg Z) w) ∧ Z = (bv (zs 256)).toArray := by
  have h : (Try.prog.info? 83).map (fun i => (i.zero, i.size)) = some (some (.agg (bv (zs 256)).toArray), 256) := by kernel_rfl
  exact ⟨_, (zero_of_info h).1, rfl⟩
theorem info_arr {L : List UInt8} (hL : L.length = 256) : (Try.prog.info? 83).map (·.size) = some (bv L).toArray.size := by
  have h : (Try.prog.info? 83).map (·.size) = some 256 := by kernel_rfl
  rw [h]; simp [bv, hL]
theorem bv_all (L : List UInt8) : (bv L).toArray.all (·.oneCell') = true := by
  rw [Array.all_eq_true_iff_forall_mem]
  intro v hv
  exact bv_one L v (by simpa using hv)
theorem arr_u : Try.prog.underlying 83 = some (.array (Try.prog.arrayLen 83) (Try.prog.elem 83)) := by
  have hal : Try.prog.arrayLen 83 = 256 := by kernel_rfl
  have hel : Try.prog.elem 83 = 5 := by kernel_rfl
  rw [hal, hel]; exact Try.underlying83
theorem arr_len : Try.prog.arrayLen 83 = 256 := by kernel_rfl
theorem arr_el (w : World) : (sizeOf (Try.prog.elem 83)).run Try.prog w = .ok 1 w := by kernel_rfl
theorem cut_l (b n : Nat) (x : Int) (hx : x = n) (hn : n < 256) (w : World) : (Instr.sliceAt 83 (.pointer (some ⟨b, 0, none⟩)) (some (.int .i64 x)) none none).run Try.prog w = .ok (.slice (some ⟨b, n, none⟩) (256 - n) (256 - n)) w := by
  subst hx
  rw [run_sliceAt_array_l (P := Try.prog) w 83 ⟨b, 0, none⟩ arr_u .i64 (n : Int) (by omega) (by rw [arr_len]; omega), arr_len, arr_el]
  simp only [Result.andThen, slicedAt, Int.toNat_natCast, Nat.mul_one]
  rw [if_neg (by omega), add_zero_block]
theorem cut_h (b : Nat) (w : World) : (Instr.sliceAt 83 (.pointer (some ⟨b, 0, none⟩)) none (some (.int .i64 252)) none).run Try.prog w = .ok (.slice (some ⟨b, 0, none⟩) 252 256) w := by
  rw [run_sliceAt_array_h (P := Try.prog) w 83 ⟨b, 0, none⟩ arr_u .i64 252 (by omega) (by rw [arr_len]; omega), arr_len, arr_el]
  simp [Result.andThen, slicedAt, Addr.add]
theorem cut_all (b : Nat) (w : World) : (Instr.sliceAt 83 (.pointer (some ⟨b, 0, none⟩)) none none none).run Try.prog w = .ok (.slice (some ⟨b, 0, none⟩) 256 256) w := by
  rw [run_sliceAt_array_all (P := Try.prog) w 83 ⟨b, 0, none⟩ arr_u, arr_len, arr_el]
  simp [Result.andThen, slicedAt, Addr.add]
def fb (p : Pg) : Nat → List UInt8
  | 0 => [b8 p.kind.toNat, b8 p.cells.length]
  | j + 1 => fb p j ++ be4 (fld p j).toNat
theorem fb_len (p : Pg) (j : Nat) : (fb p j).length = 2 + 4 * j := by
  induction j with
  | zero => rfl
  | succ j ih => simp only [fb, List.length_append, ih, be4_len]; omega
theorem fb_all (p : Pg) : fb p 3 = hd p := by simp [fb, hd, fld]
def fil (p : Pg) (j : Nat) : List UInt8 := fb p j ++ zs (254 - 4 * j)
theorem fil_len (p : Pg) (j : Nat) (hj : j ≤ 3) : (fil p j).length = 256 := by simp only [fil, List.length_append, fb_len, zs, List.length_replicate]; omega
theorem fil_zero (p : Pg) : ((zs 256).set 0 (b8 p.kind.toNat)).set 1 (b8 p.cells.length) = fil p 0 := by
  have := set_two [] [] 254 (b8 p.kind.toNat) (b8 p.cells.length)
  simp only [List.nil_append, List.length_nil, List.append_nil, Nat.zero_add] at this
  exact this
theorem splice_head (A R c : List UInt8) : splice (A ++ R) A.length c = A ++ c ++ R.drop c.length := by
  unfold splice
  rw [List.take_left, List.drop_append, List.drop_of_length_le (by omega)]
  simp
theorem fil_succ (p : Pg) (j : Nat) (hj : j < 3) : splice (fil p j) (2 + 4 * j) (be4 (fld p j).toNat) = fil p (j + 1) := by
  have := splice_head (fb p j) (zs (254 - 4 * j)) (be4 (fld p j).toNat)
  rw [fb_len] at this
  unfold fil
  rw [this]
  simp only [fb, be4_len, zs, List.drop_replicate]
  rw [show 254 - 4 * j - 4 = 254 - 4 * (j + 1) by omega]
theorem fil_all (p : Pg) : fil p 3 = prt p 0 ++ zs 4 := by
  unfold fil prt
  rw [fb_all]
  simp only [List.take_zero, tab, rev, room_nil, List.append_nil, zs, List.append_assoc, List.replicate_append_replicate]
theorem setRow_cells_at {w : World} {g : Nat} {t : TypeId} {cs : Array Value} (h : At w g t cs) (cs' : Array Value) : At (w.setRow g cs') g t cs' := by
  unfold At at h ⊢
  simp [World.setRow, Array.getElem?_modify, h]
theorem bv_splice (L : List UInt8) (o : Nat) (q : ByteArray) : ((bv L).toArray.toList.take o ++ Lib.byteCells q.data.toList ++ (bv L).toArray.toList.drop (o + q.size)).toArray = (bv (splice L o (bl q))).toArray := by
  unfold splice
  rw [bl_len]
  simp only [bv, List.map_append, List.map_take, List.map_drop]
  rfl
theorem below_setRow {W w : World} {B g : Nat} (h : Below B W w) (hg : B ≤ g) (cs : Array Value) : Below B W (w.setRow g cs) :=
  ⟨h.os, h.tape, h.output, by simpa using h.size, fun i hi => (setRow_other w g i cs (by omega)).trans (h.block i hi)⟩
abbrev PgAt (w : World) (g : Nat) (p : Pg) (A : Option Addr) (c : Nat) : Prop := At w g 37 #[.int .i64 p.kind, .int .i64 p.no, .int .i64 p.epoch, .int .i64 p.link, .slice A p.cells.length c]
/-- what stands while lay runs: the page, its own two arrays -/
structure LRel (W : World) (p : Pg) (A : Option Addr) (c : Nat) (l : List UInt8) (w : World) : Prop where
  pg : PgAt w W.heap.size p A c
  z : Arr w (W.heap.size + 1) 83 (zs 256)
  b : Arr w (W.heap.size + 1 + 1) 83 l
  bl : Below W.heap.size W w
theorem LRel.set {W w : World} {p : Pg} {A : Option Addr} {c : Nat} {l : List UInt8} (h : LRel W p A c l w) (k : Nat) (x : UInt8) : LRel W p A c (l.set k x) (w.setCell ⟨W.heap.size + 1 + 1, k, none⟩ (.int .u8 (x.toNat : Int))) :=
  ⟨(Below.heap_setCell _ _ _ _ (by simp; omega)).trans h.pg, (Below.heap_setCell _ _ _ _ (by simp)).trans h.z, Arr.set h.b k x, h.bl.setCell (by simp; omega) _⟩
theorem LRel.only {W w w' : World} {p : Pg} {A : Option Addr} {c : Nat} {l l' : List UInt8} (h : LRel W p A c l w) (ho : Only (W.heap.size + 1 + 1) w w') (hb : Arr w' (W.heap.size + 1 + 1) 83 l') : LRel W p A c l' w' :=
  ⟨(ho.block _ (At.lt h.pg) (by simp; omega)).trans h.pg, (ho.block _ (At.lt h.z) (by simp)).trans h.z, hb, h.bl.trans (ho.below (by omega) (At.lt h.b))⟩
theorem LRel.row_set {W w : World} {p : Pg} {A : Option Addr} {c : Nat} {l : List UInt8} (h : LRel W p A c l w) (l' : List UInt8) : LRel W p A c l' (w.setRow (W.heap.size + 1 + 1) (bv l').toArray) :=
  ⟨(setRow_other w _ _ _ (by omega)).trans h.pg, (setRow_other w _ _ _ (by omega)).trans h.z, setRow_cells_at h.b _, below_setRow h.bl (by omega) _⟩
theorem LRel.drew {W w : World} {p : Pg} {A : Option Addr} {c : Nat} {l : List UInt8} (h : LRel W p A c l w) : LRel W p A c l w.drew := ⟨h.pg, h.z, h.b, h.bl.drew⟩
theorem LRel.row {W w : World} {p : Pg} {A : Option Addr} {c : Nat} {l : List UInt8} (h : LRel W p A c l w) (hr : Row W W.heap.size A (strs p.cells)) : Row w W.heap.size A (strs p.cells) := hr.below h.bl
theorem lrel_new (W : World) (p : Pg) (A : Option Addr) (c : Nat) : LRel W p A c (zs 256) (((W.alloc (.cells #[.int .i64 p.kind, .int .i64 p.no, .int .i64 p.epoch, .int .i64 p.link, .slice A p.cells.length c] 37)).alloc (.cells (bv (zs 256)).toArray 83)).alloc (.cells (bv (zs 256)).toArray 83)) := by
  refine ⟨?_, ?_, ?_, (((Below.refl _ _).alloc (Nat.le_refl _) _).alloc (by simp) _).alloc (by simp; omega) _⟩
  · show _ = _
    rw [Below.heap_alloc _ _ _ (by simp; omega), Below.heap_alloc _ _ _ (by simp), heap_alloc_new]
  · have := heap_alloc_new (W.alloc (.cells #[.int .i64 p.kind, .int .i64 p.no, .int .i64 p.epoch, .int .i64 p.link, .slice A p.cells.length c] 37)) (.cells (bv (zs 256)).toArray 83)
    show _ = _
    rw [Below.heap_alloc _ _ _ (by simp)]
    simpa using this
  · have := heap_alloc_new ((W.alloc (.cells #[.int .i64 p.kind, .int .i64 p.no, .int .i64 p.epoch, .int .i64 p.link, .slice A p.cells.length c] 37)).alloc (.cells (bv (zs 256)).toArray 83)) (.cells (bv (zs 256)).toArray 83)
    show _ = _
    simpa using this

set_option maxRecDepth 100000 in
set_option maxHeartbeats 1600000 in
theorem lay_any (w : World) (p : Pg) (A : Option Addr) (c : Nat) (hr : Row w w.heap.size A (strs p.cells)) (hro : room p.cells ≤ 236) (hg : PgOk p) :
    Calls Try.prog 30 #[pv p A c] w fun e w' => e = .returned (.agg (bv (body p ++ zs 4)).toArray) ∧ Below w.heap.size w w' := by
  obtain ⟨Z, hZ, hZe⟩ := zero_arr
  have HR := Lib.hid (lrel_new w p A c)
  rw [← hZe] at HR
  have HZ := Lib.hid hZe
  clear hZe
  obtain ⟨⟨hk1, hk2⟩, hfl⟩ := (good_iff p).1 hg
  have HFL := Lib.hid hfl
  clear hfl hg
  have hlen : 2 * p.cells.length + tot p.cells ≤ 236 := hro
  go_enter Try.func30, Try.ntmps30
  go_upto_region 2 with fail
  obtain ⟨w1, hw1⟩ : ∃ v, v = ((w.alloc (.cells #[.int .i64 p.kind, .int .i64 p.no, .int .i64 p.epoch, .int .i64 p.link, .slice A p.cells.length c] 37)).alloc (.cells Z 83)).alloc (.cells Z 83) := ⟨_, rfl⟩
  rw [← hw1] at HR ⊢
  have HW1 := Lib.hid hw1
  clear hw1
  have hrel0 := HR.out
  have c0 : w1.cell? ⟨w.heap.size, 0, none⟩ = some (.int .i64 p.kind) := by rw [hrel0.pg.cell]; rfl
  have c4 : w1.cell? ⟨w.heap.size, 4, none⟩ = some (.slice A p.cells.length c) := by rw [hrel0.pg.cell]; rfl
  have d0 : w1.cell? ⟨w.heap.size + 1 + 1, 0, none⟩ = some (.int .u8 0) := by rw [hrel0.b.cell 0 (by simp [zs])]; simp [zs]
  have d1 : w1.cell? ⟨w.heap.size + 1 + 1, 1, none⟩ = some (.int .u8 0) := by rw [hrel0.b.cell 1 (by simp [zs])]; simp [zs]
  have f0 : w1.frozen? ⟨w.heap.size + 1 + 1, 0, none⟩ = false := hrel0.b.frozen 0
  have f1 : w1.frozen? ⟨w.heap.size + 1 + 1, 1, none⟩ = false := hrel0.b.frozen 1
  have HS := Lib.hid (fil_zero p ▸ (hrel0.set 0 (b8 p.kind.toNat)).set 1 (b8 p.cells.length))
  clear hrel0
  have HK1 := Lib.hid (show ((b8 p.kind.toNat).toNat : Int) = p.kind by rw [b8_nat]; omega)
  have HK2 := Lib.hid (show ((b8 p.cells.length).toNat : Int) = p.cells.length by rw [b8_nat]; omega)
  go_cut [10] from 10 to 18 (fun s10 wx => s10 = s10 ∧ LRel w p A c (fil p 0) wx)
  case first =>
    go_region
    go_wp2_with fail
    go_meet
    refine ⟨trivial, ?_⟩
    have := HS.out
    rw [HK1.out, HK2.out] at this
    exact this.drew
  case rest =>
    obtain ⟨_, hrel1⟩ := hcut
    clear c0 c4 d0 d1 f0 f1 HS HK1 HK2 HR HW1 hZ HZ
    have HP := Lib.hid hrel1.pg
    have hfd := fields_any wc p A c
    have e0 : wc.cell? ⟨w.heap.size, 0, none⟩ = some (.int .i64 p.kind) := by rw [hrel1.pg.cell]; rfl
    have e1 : wc.cell? ⟨w.heap.size, 1, none⟩ = some (.int .i64 p.no) := by rw [hrel1.pg.cell]; rfl
    have e2 : wc.cell? ⟨w.heap.size, 2, none⟩ = some (.int .i64 p.epoch) := by rw [hrel1.pg.cell]; rfl
    have e3 : wc.cell? ⟨w.heap.size, 3, none⟩ = some (.int .i64 p.link) := by rw [hrel1.pg.cell]; rfl
    have e4 : wc.cell? ⟨w.heap.size, 4, none⟩ = some (.slice A p.cells.length c) := by rw [hrel1.pg.cell]; rfl
    go_wp2_with fail
    refine hfd.mono ?_
    rintro e w2 ⟨rfl, hb2⟩
    clear hfd e0 e1 e2 e3 e4
    have hrel2 : LRel w p A c (fil p 0) w2 := ⟨(hb2.block _ (At.lt hrel1.pg)).trans hrel1.pg, (hb2.block _ (At.lt hrel1.z)).trans hrel1.z, hrel1.b.below hb2, Below.step hrel1.bl hb2⟩
    clear hb2 hrel1
    go_wp2_with fail
    go_loopw [21] (fun i wr => ∃ j : Nat, j ≤ 3 ∧ i = .int .i64 j ∧ LRel w p A c (fil p j) wr) (fun i _ => 3 - (intOf i).toNat)
    case atStart => exact ⟨0, by omega, rfl, hrel2⟩
    case round =>
      obtain ⟨j, hj, rfl, hrel⟩ := hrel
      clear hrel2
      by_cases hlt : j < 3
      · have hfj : ∃ z : Nat, fld p j = (z : Int) ∧ z < 4294967296 ∧ ∀ w, (Instr.index 93 (.agg #[.int .i64 p.no, .int .i64 p.epoch, .int .i64 p.link]) (.int .i64 (j : Int))).run Try.prog w = .ok (.int .i64 (z : Int)) w := by
          obtain ⟨a1, a2⟩ := HFL.out j hlt
          refine ⟨(fld p j).toNat, by omega, by omega, ?_⟩
          rw [show (((fld p j).toNat : Nat) : Int) = fld p j by omega]
          match j, hlt with
          | 0, _ => exact fun w => by kernel_rfl
          | 1, _ => exact fun w => by kernel_rfl
          | 2, _ => exact fun w => by kernel_rfl
        obtain ⟨z, hz, hz2, hix⟩ := hfj
        have HN := Lib.hid (fil_succ p j hlt)
        rw [hz, Int.toNat_natCast] at HN
        have HFj := Lib.hid (fil_len p j hj)
        clear hz
        generalize fil p j = l at *
        have hcut := cut_l (w.heap.size + 1 + 1) (2 + 4 * j) (2 + (j : Int) * 4) (by omega) (by omega)
        go_wp2_with fail
        refine (write_any wr (w.heap.size + 1 + 1) (2 + 4 * j) _ _ z _ l hrel.b (by rw [HFj.out]; omega) (by omega) hz2).mono ?_
        rintro e w3 ⟨rfl, ha, ho⟩
        rw [HN.out] at ha
        have hrel3 := hrel.only ho ha
        clear ha ho hrel
        go_wp2_with fail
        go_roundw
        case rel => exact ⟨j + 1, by omega, by go_num, hrel3⟩
        case measure => simp [intOf]; omega
      · obtain rfl : j = 3 := by omega
        rw [fil_all] at hrel
        clear HFL
        have f4 : wr.cell? ⟨w.heap.size, 4, none⟩ = some (.slice A p.cells.length c) := by rw [hrel.pg.cell]; rfl
        have hrow := hrel.row hr
        go_wp2_with fail
        have hrel0 := hrel
        clear hrel f4 hrow
        go_loopw [6, 36] (fun v i wx => ∃ k : Nat, k ≤ p.cells.length ∧ i = .int .i64 k ∧ v = .int .i64 ((252 - tot (p.cells.take k) : Nat) : Int) ∧ LRel w p A c (prt p k ++ zs 4) wx) (fun _ i _ => p.cells.length - (intOf i).toNat)
        case atStart => exact ⟨0, by omega, rfl, by simp [tot], hrel0⟩
        case round =>
          obtain ⟨k, hk, rfl, rfl, hrel⟩ := hrel
          clear hrel0
          by_cases hlt : k < p.cells.length
          · have h1 := room_le p.cells (k + 1)
            have h2 : room (p.cells.take k) = 2 * k + tot (p.cells.take k) := by unfold room; rw [List.length_take, Nat.min_eq_left (by omega)]
            have h3 := room_take p.cells k hlt
            have h4 := tot_take p.cells k hlt
            have HT := Lib.hid (tot_take p.cells k hlt)
            have HP := Lib.hid (prt_succ p k hlt hro (zs 4))
            have hL : (prt p k ++ zs 4).length = 256 := by rw [List.length_append, prt_len p k hk hro]; rfl
            have HL := Lib.hid hL
            clear hL
            rw [h4] at HP
            rw [h3, h2] at h1
            obtain ⟨ad, hA, hb, hc⟩ := strs_get (hrel.row hr) k hlt
            generalize p.cells[k] = q at *
            generalize tot (p.cells.take k) = T at *
            generalize prt p k ++ zs 4 = L at *
            have hn : 2 * k + T + (2 + q.size) ≤ 236 := by omega
            have hcut := cut_l (w.heap.size + 1 + 1) (252 - (T + q.size)) (((252 - T : Nat) : Int) - (q.size : Int)) (by omega) (by omega)
            have hcp := Lib.run_copy_row_string (P := Try.prog) wr 27 9 3 5 (w.heap.size + 1 + 1) (252 - (T + q.size)) (256 - (252 - (T + q.size))) (256 - (252 - (T + q.size))) q _ 83 Try.underlying27 (by kernel_rfl) hrel.b (by omega) (by simp only [List.size_toArray, bv_len, HL.out]; omega)
            subst hA
            clear h1 h2 h3 h4
            rw [bv_splice] at hcp
            have hrel3 := hrel.row_set (splice L (252 - (T + q.size)) (bl q))
            have HL3 := Lib.hid (show (splice L (252 - (T + q.size)) (bl q)).length = 256 by
              unfold splice
              simp only [List.length_append, List.length_take, List.length_drop, bl_len, HL.out]; omega)
            generalize splice L (252 - (T + q.size)) (bl q) = L3 at *
            generalize wr.setRow (w.heap.size + 1 + 1) (bv L3).toArray = w3 at *
            have d0 := hrel3.b.cell (14 + k * 2) (by rw [HL3.out]; omega)
            have d1 := hrel3.b.cell (14 + k * 2 + 1) (by rw [HL3.out]; omega)
            have f0 := hrel3.b.frozen (14 + k * 2)
            have f1 := hrel3.b.frozen (14 + k * 2 + 1)
            generalize L3[14 + k * 2]'_ = x0 at d0
            generalize L3[14 + k * 2 + 1]'_ = x1 at d1
            have HS := Lib.hid ((hrel3.set (14 + k * 2) (b8 (252 - (T + q.size)))).set (14 + k * 2 + 1) (b8 q.size))
            have HB0 := Lib.hid (show ((b8 (252 - (T + q.size))).toNat : Int) = ((252 - T : Nat) : Int) - (q.size : Int) by rw [b8_nat]; omega)
            have HB1 := Lib.hid (show ((b8 q.size).toNat : Int) = (q.size : Int) by rw [b8_nat]; omega)
            clear hrel hrel3
            go_wp2_with (at_builtin; refine Lib.wpList_copy_run _ rfl _ _ 27 9 rfl _ _ rfl rfl hcp ?_)
            go_roundw
            case rel =>
              refine ⟨k + 1, by omega, by go_num, ?_, ?_⟩
              · rw [HT.out]; go_num
              · have h5 := HS.out
                rw [HB0.out, HB1.out] at h5
                have h6 := HP.out
                rw [show 14 + 2 * k = 14 + k * 2 by omega] at h6
                rw [h6] at h5
                exact h5
            case measure => simp [intOf]; omega
          · obtain rfl : k = p.cells.length := by omega
            have hL : (body p ++ zs 4).length = 256 := by rw [List.length_append, body_len p hro]; rfl
            have hi := info_arr hL
            have hb : Arr wr (w.heap.size + 1 + 1) 83 (body p ++ zs 4) := hrel.b
            have hz := hrel.z
            have h1 := bv_all (body p ++ zs 4)
            have hsz : (bv (zs 256)).toArray.size = (bv (body p ++ zs 4)).toArray.size := by simp only [List.size_toArray, bv_len, hL]; rfl
            have HA := Lib.hid (setRow_cells_at hz (bv (body p ++ zs 4)).toArray)
            have HB := Lib.hid (below_setRow hrel.bl (show w.heap.size ≤ w.heap.size + 1 by omega) (bv (body p ++ zs 4)).toArray)
            clear hrel
            generalize hLe : body p ++ zs 4 = L at *
            have HLe := Lib.hid hLe
            clear hLe
            generalize zs 256 = O at *
            go_wp2_with (first
              | (refine wpList_load_row rfl 83 (.tmp 3) rfl (w.heap.size + 1 + 1) rfl 83 _ (0, 0) _ hb Try.underlying83 rfl hi ?_)
              | (refine wpList_store_row rfl 83 (.tmp 2) (.tmp 63) rfl (w.heap.size + 1) _ rfl rfl 83 _ hz hi hsz h1 ?_))
            refine bodyPost_ret (results_cell_row rfl _ _ (w.heap.size + 1) 83 _ (0, 0) _ rfl HA.out Try.underlying83 rfl hi) rfl ?_
            exact ⟨by rw [HLe.out], HB.out⟩
end Go.Proofs.Ytcnblgienombeaa.PageLay
