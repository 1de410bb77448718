/- The contracts of bytes.Equal and isOf. -/
import Derived.Test.YtcnblgienombeaaPageTold2
import Derived.Test.YtcnblgienombeaaStr
namespace Go.Proofs.Ytcnblgienombeaa.PageIs
open Go.RowKit Base PagePlain PageSmall PageBytes PageLay PagePut PageCut PageTold PageTold2 SumMem SumOf Str

theorem eql_str (l m : List UInt8) : decide ((⟨l.toArray⟩ : ByteArray) = ⟨m.toArray⟩) = decide (l = m) := by
  apply decide_eq_decide.2
  constructor
  · intro h
    injection h with h
    simpa using h
  · intro h; rw [h]
theorem equal_any (w : World) (A B : Option Addr) (l m : List UInt8) (n k c1 c2 : Nat) (hn : n = l.length) (hk : k = m.length) (hA : Row w w.heap.size A (bv l)) (hB : Row w w.heap.size B (bv m)) :
    Calls Try.prog 45 #[.slice A n c1, .slice B k c2] w fun e w' => e = .returned (.bool (decide (l = m))) ∧ w = w' := by
  subst hn hk
  have h1 := conv_bytes (P := Try.prog) Try.underlying27 Try.underlying5 Try.underlying9 c1 hA
  have h2 := conv_bytes (P := Try.prog) Try.underlying27 Try.underlying5 Try.underlying9 c2 hB
  have HE := Lib.hid (eql_str l m)
  generalize (⟨l.toArray⟩ : ByteArray) = s at *
  generalize (⟨m.toArray⟩ : ByteArray) = t at *
  go_enter Try.func45, Try.ntmps45
  go_wp2_with fail
  go_ret
  refine ⟨ret_bool ?_, rfl⟩
  rw [← HE.out, ba_beq]
theorem row_pre {w : World} {B : Nat} {A : Option Addr} {l m : List UInt8} (h : Row w B A (bv (l ++ m))) : Row w B A (bv l) := fun k v hv => h k v (by
  have hk : k < (bv l).length := (List.getElem?_eq_some_iff.1 hv).1
  rw [bv_append, List.getElem?_append_left hk]; exact hv)
theorem row_head {w : World} {B : Nat} {A : Option Addr} {l : List UInt8} (h : Row w B A (bv l)) (n : Nat) : Row w B A (bv (l.take n)) := by
  apply row_pre (m := l.drop n)
  rw [List.take_append_drop]; exact h

set_option maxRecDepth 100000 in
set_option maxHeartbeats 1600000 in
theorem isOf_any (w : World) (p : Pg) (A : Option Addr) (c : Nat) (ad : Addr) (l : List UInt8) (cb m : Nat) (hm : m = l.length) (hr : Row w w.heap.size A (strs p.cells)) (hro : room p.cells ≤ 236) (hok : PgOk p)
    (hb : Row w w.heap.size (some ad) (bv l)) (hl : l.length = 256) (hc : l.length ≤ cb) :
    Calls Try.prog 37 #[pv p A c, .slice (some ad) m cb] w fun e w' => e = .returned (.bool (decide (body p = l.take 252))) ∧ Below w.heap.size w w' := by
  subst hm
  have hb0 : Below w.heap.size w (w.alloc (.cells #[.int .i64 p.kind, .int .i64 p.no, .int .i64 p.epoch, .int .i64 p.link, .slice A p.cells.length c] 37)) := (Below.refl _ _).alloc (Nat.le_refl _) _
  have hlay := lay_any (w.alloc (.cells #[.int .i64 p.kind, .int .i64 p.no, .int .i64 p.epoch, .int .i64 p.link, .slice A p.cells.length c] 37)) p A c (hr.belowSize hb0) hro hok
  have HL := Lib.hid hl
  have hL : (body p ++ zs 4).length = 256 := by rw [List.length_append, body_len p hro]; rfl
  have hi := info_arr hL
  obtain ⟨Z, hZ, hZe⟩ := zero_arr
  have h1 := bv_all (body p ++ zs 4)
  have hsz : Z.size = (bv (body p ++ zs 4)).toArray.size := by rw [hZe]; simp only [List.size_toArray, bv_len, hL]; rfl
  have HBL := Lib.hid (body_len p hro)
  have hch := sl_h ad l.length cb 252 (by omega) (by omega) 252 rfl
  clear hZe hl hr
  go_enter Try.func37, Try.ntmps37
  go_wp2_with fail
  refine hlay.mono ?_
  rintro e w2 ⟨rfl, hb2⟩
  clear hlay
  have hb3 := Below.step hb0 hb2
  clear hb0 hb2
  have hca := cut_h w2.heap.size
  have hat : Arr ((w2.alloc (.cells Z 83)).setRow w2.heap.size (bv (body p ++ zs 4)).toArray) w2.heap.size 83 (body p ++ zs 4) := setRow_cells_at (heap_alloc_new w2 _) _
  have hb5 : Below w.heap.size w ((w2.alloc (.cells Z 83)).setRow w2.heap.size (bv (body p ++ zs 4)).toArray) := below_setRow (hb3.alloc hb3.size _) hb3.size _
  go_upto_region 2 with (first
    | (refine wpList_store_row rfl 83 (.tmp 5) (.tmp 7) rfl w2.heap.size _ rfl rfl 83 _ (heap_alloc_new w2 _) hi hsz h1 ?_))
  have hbw := hb3.size
  clear hb3 hZ hL hi hsz h1
  generalize (w2.alloc (.cells Z 83)).setRow w2.heap.size (bv (body p ++ zs 4)).toArray = w3 at *
  generalize w2.heap.size = b at *
  have heq := equal_any w3.drew (some ⟨b, 0, none⟩) (some ad) (body p) (l.take 252) 252 252 256 cb HBL.out.symm (by rw [List.length_take, HL.out]; rfl) (row_pre (Arr.row hat)) (row_head (hb.belowSize hb5) 252)
  clear hat hb
  generalize hB : decide (body p = l.take 252) = B at heq
  have HB := Lib.hid hB
  clear hB
  go_region_with (go_at_call 45; (with_reducible refine heq.mono ?_); rintro e w' ⟨rfl, rfl⟩)
  all_goals
    go_wp2_with fail
    go_ret
    exact ⟨by rw [HB.out]; rfl, hb5.drew⟩
end Go.Proofs.Ytcnblgienombeaa.PageIs
