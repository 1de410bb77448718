/- The contract of Put. -/
import Derived.Test.YtcnblgienombeaaPageLay
namespace Go.Proofs.Ytcnblgienombeaa.PagePut
open Go.RowKit Base PagePlain PageSmall PageBytes PageLay SumMem SumFill SumOf SumPlain

theorem rowX_row {w : World} {g : Nat} {A : Option Addr} {vs : List Value} (h : RowX w g A vs) : Row w w.heap.size A vs := fun k v hv => by
  obtain ⟨ad, e, hb, _, hc⟩ := h k v hv
  exact ⟨ad, e, hb, hc⟩
theorem rowX_pre {w : World} {g : Nat} {A : Option Addr} {l m : List UInt8} (h : RowX w g A (bv (l ++ m))) : RowX w g A (bv l) := fun k v hv => h k v (by
  have hk : k < (bv l).length := (List.getElem?_eq_some_iff.1 hv).1
  rw [bv_append, List.getElem?_append_left hk]; exact hv)
theorem done_grown {w w' : World} {g : Nat} {n : Int} {row : Option Nat} (h : Done w g n) (hb : w.grownBy w' row) (hg : some g ≠ row) : Done w' g n := Sm.grown h hb hg
theorem ready_drew {w : World} {g : Nat} {n : Int} (h : Ready w g n) : Ready w.drew g n := by
  rcases h with ⟨T, h⟩ | h
  · exact .inl ⟨T, h.drew⟩
  · exact .inr (Sm.drew h)
theorem sum_at_end (p : Pg) (h : room p.cells ≤ 236) (n : Nat) : splice (body p ++ zs 4) 252 (be4 n) = body p ++ be4 n := by
  have := splice_head (body p) (zs 4) (be4 n)
  rw [body_len p h] at this
  rw [this]
  simp [be4, zs]
theorem err_zero (p : Pg) : err p = 0 ↔ room p.cells ≤ 236 ∧ PgOk p := by
  unfold err
  by_cases h : room p.cells ≤ 236
  · rw [if_pos h]
    by_cases g : PgOk p
    · rw [if_pos g]; exact ⟨fun _ => ⟨h, g⟩, fun _ => rfl⟩
    · rw [if_neg g]; exact ⟨fun e => (by cases e), fun e => absurd e.2 g⟩
  · rw [if_neg h]; exact ⟨fun e => (by cases e), fun e => absurd e.1 h⟩
theorem only_new {a b c : World} {g x : Nat} (h : Only g a b) (k : Only x b c) (hx : a.heap.size ≤ x) : Only g a c :=
  ⟨k.os.trans h.os, k.tape.trans h.tape, k.output.trans h.output, Nat.le_trans h.size k.size, fun i hi hne => (k.block i (Nat.lt_of_lt_of_le hi h.size) (fun e => by injection e with e; omega)).trans (h.block i hi hne)⟩
/-- what Put comes to -/
def PutPost (w : World) (g : Nat) (n : Int) (p : Pg) (e : Ending) (w' : World) : Prop :=
  (err p = 0 → ∃ b, e = .returned (.tuple #[.slice (some ⟨b, 0, none⟩) 256 256, .int .i64 0]) ∧ w.heap.size ≤ b ∧ Arr w' b 83 (page p) ∧ Ready w' g (n + 252) ∧ Only g w w') ∧
  (err p ≠ 0 → e = .returned (.tuple #[.slice none 0 0, .int .i64 (err p)]) ∧ Ready w' g n ∧ Only g w w')

set_option maxRecDepth 100000 in
set_option maxHeartbeats 1600000 in
theorem put_bad (g : Nat) (n : Int) (w : World) (p : Pg) (A : Option Addr) (c : Nat) (h : Ready w g n) (hr : RowX w g A (strs p.cells)) (hl : p.cells.length ≤ 1000) (hz : ∀ q ∈ p.cells, q.size ≤ 1000) (he : err p ≠ 0) :
    Calls Try.prog 18 #[.pointer (some ⟨g, 0, none⟩), pv p A c] w fun e w' => e = .returned (.tuple #[.slice none 0 0, .int .i64 (err p)]) ∧ Ready w' g n ∧ Only g w w' := by
  have hb : Below w.heap.size w (w.alloc (.cells #[.int .i64 p.kind, .int .i64 p.no, .int .i64 p.epoch, .int .i64 p.link, .slice A p.cells.length c] 37)) := (Below.refl _ _).alloc (Nat.le_refl _) _
  have hc := check_any (w.alloc (.cells #[.int .i64 p.kind, .int .i64 p.no, .int .i64 p.epoch, .int .i64 p.link, .slice A p.cells.length c] 37)) p A c ((rowX_row hr).belowSize hb) hl hz
  have HH := Lib.hid h
  generalize err p = er at *
  have hne : (er != 0) = true := by simpa using he
  clear hr hl hz h
  simp only [pv] at *
  go_enter Try.func18, Try.ntmps18
  go_wp2_with fail
  refine hc.mono ?_
  rintro e w1 ⟨rfl, hb1⟩
  clear hc
  have hb2 := Below.step hb hb1
  clear hb hb1
  go_wp2_with fail
  go_ret2
  exact ⟨rfl, Ready.below HH.out hb2, Only.ofBelow hb2⟩
set_option maxRecDepth 100000 in
set_option maxHeartbeats 1600000 in
theorem put_good (g : Nat) (n : Int) (w : World) (p : Pg) (A : Option Addr) (c : Nat) (h : Ready w g n) (h0 : 0 ≤ n) (hn : n ≤ 900000000) (hr : RowX w g A (strs p.cells)) (hl : p.cells.length ≤ 1000) (hz : ∀ q ∈ p.cells, q.size ≤ 1000) (he : err p = 0) :
    Calls Try.prog 18 #[.pointer (some ⟨g, 0, none⟩), pv p A c] w fun e w' => ∃ b, e = .returned (.tuple #[.slice (some ⟨b, 0, none⟩) 256 256, .int .i64 0]) ∧ w.heap.size ≤ b ∧ Arr w' b 83 (page p) ∧ Ready w' g (n + 252) ∧ Only g w w' := by
  obtain ⟨hro, hok⟩ := (err_zero p).1 he
  have hgl := Ready.lt h
  have hpa : PgAt (w.alloc (.cells #[.int .i64 p.kind, .int .i64 p.no, .int .i64 p.epoch, .int .i64 p.link, .slice A p.cells.length c] 37)) w.heap.size p A c := heap_alloc_new w _
  have hb : Below w.heap.size w (w.alloc (.cells #[.int .i64 p.kind, .int .i64 p.no, .int .i64 p.epoch, .int .i64 p.link, .slice A p.cells.length c] 37)) := (Below.refl _ _).alloc (Nat.le_refl _) _
  have hc := check_any (w.alloc (.cells #[.int .i64 p.kind, .int .i64 p.no, .int .i64 p.epoch, .int .i64 p.link, .slice A p.cells.length c] 37)) p A c ((rowX_row hr).belowSize hb) hl hz
  rw [he] at hc
  go_enter Try.func18, Try.ntmps18
  go_wp2_with fail
  refine hc.mono ?_
  rintro e w1 ⟨rfl, hb1⟩
  clear hc
  have hp1 : PgAt w1 w.heap.size p A c := (hb1.block _ (At.lt hpa)).trans hpa
  have hb2 := Below.step hb hb1
  clear hb hb1 hpa
  have e0 : w1.cell? ⟨w.heap.size, 0, none⟩ = some (.int .i64 p.kind) := by rw [hp1.cell]; rfl
  have e1 : w1.cell? ⟨w.heap.size, 1, none⟩ = some (.int .i64 p.no) := by rw [hp1.cell]; rfl
  have e2 : w1.cell? ⟨w.heap.size, 2, none⟩ = some (.int .i64 p.epoch) := by rw [hp1.cell]; rfl
  have e3 : w1.cell? ⟨w.heap.size, 3, none⟩ = some (.int .i64 p.link) := by rw [hp1.cell]; rfl
  have e4 : w1.cell? ⟨w.heap.size, 4, none⟩ = some (.slice A p.cells.length c) := by rw [hp1.cell]; rfl
  have hlay := lay_any w1 p A c ((rowX_row hr).belowSize hb2) hro hok
  go_wp2_with fail
  refine hlay.mono ?_
  rintro e w2 ⟨rfl, hb3⟩
  clear hlay e0 e1 e2 e3 e4 hp1
  have hb4 := Below.step hb2 hb3
  clear hb2 hb3
  have h2 := Ready.below h hb4
  have hL : (body p ++ zs 4).length = 256 := by rw [List.length_append, body_len p hro]; rfl
  have hi := info_arr hL
  obtain ⟨Z, hZ, hZe⟩ := zero_arr
  have h1 := bv_all (body p ++ zs 4)
  have hsz : Z.size = (bv (body p ++ zs 4)).toArray.size := by rw [hZe]; simp only [List.size_toArray, bv_len, hL]; rfl
  clear hZe
  have HLe : Arr ((w2.alloc (.cells Z 83)).setRow w2.heap.size (bv (body p ++ zs 4)).toArray) w2.heap.size 83 (body p ++ zs 4) := setRow_cells_at (heap_alloc_new w2 _) _
  have hb5 : Below w.heap.size w ((w2.alloc (.cells Z 83)).setRow w2.heap.size (bv (body p ++ zs 4)).toArray) := below_setRow (hb4.alloc hb4.size _) hb4.size _
  have hg2 : g < w2.heap.size := Nat.lt_of_lt_of_le hgl hb4.size
  have hr5 : Ready ((w2.alloc (.cells Z 83)).setRow w2.heap.size (bv (body p ++ zs 4)).toArray) g n := Ready.below h hb5
  go_upto_region 5 with (first
    | (refine wpList_store_row rfl 83 (.tmp 7) (.tmp 14) rfl w2.heap.size _ rfl rfl 83 _ (heap_alloc_new w2 _) hi hsz h1 ?_))
  have hbw := hb4.size
  clear hb4 h2 hZ h hL hi hsz h1
  generalize (w2.alloc (.cells Z 83)).setRow w2.heap.size (bv (body p ++ zs 4)).toArray = w3 at *
  generalize w2.heap.size = b at *
  have hne : b ≠ g := by omega
  have hx : RowX w3.drew g (some ⟨b, 0, none⟩) (bv (body p)) := rowX_pre (Arr.rowX HLe hne)
  have hcl := cut_l b 252 252 rfl (by omega)
  have hch := cut_h b
  have hca := cut_all b
  have hbl : (body p).length ≤ 1000000 := by rw [body_len p hro]; omega
  have hbe := (body_len p hro).symm
  have hsl := sum_lt (body p)
  have hg3 : g < w3.drew.heap.size := Ready.lt hr5
  have hse := sum_at_end p hro (sum (body p))
  have hll : 252 + 4 ≤ (body p ++ zs 4).length := by rw [List.length_append, ← hbe]; simp [zs]
  have hp : body p ++ be4 (sum (body p)) = page p := rfl
  rw [hp] at hse
  have HBE := Lib.hid hbe
  clear hbe
  have HSE := Lib.hid hse
  have HHX := Lib.hid hx
  have HHR := Lib.hid hr5
  have HHL := Lib.hid (show Arr w3.drew b 83 (body p ++ zs 4) from HLe)
  clear hse hp hx hr5 HLe
  go_region_with (first
    | (go_at_call 32; (with_reducible refine (of_any g n _ (some ⟨b, 0, none⟩) 252 256 (body p) (ready_drew HHR.out) h0 hn hbl HBE.out HHX.out hg3).mono ?_); rintro e w4 ⟨rfl, d4, o4⟩)
    | (go_at_call 31; (with_reducible refine (write_any _ b 252 4 4 _ 83 (body p ++ zs 4) (Arr.only HHL.out o4 hne) hll (Nat.le_refl 4) hsl).mono ?_); rintro e w5 ⟨rfl, a5, o5⟩))
  all_goals
    clear hcl hch
    rw [HSE.out] at a5
    rw [← HBE.out] at d4
    go_wp2_with fail
    go_ret2
    exact ⟨b, rfl, hbw, a5, .inr (done_grown d4 o5 (fun e => hne (Option.some.inj e).symm)), only_new ((Only.ofBelow hb5).drew.trans o4) o5 hbw⟩
theorem put_any (g : Nat) (n : Int) (w : World) (p : Pg) (A : Option Addr) (c : Nat) (h : Ready w g n) (h0 : 0 ≤ n) (hn : n ≤ 900000000) (hr : RowX w g A (strs p.cells)) (hl : p.cells.length ≤ 1000) (hz : ∀ q ∈ p.cells, q.size ≤ 1000) :
    Calls Try.prog 18 #[.pointer (some ⟨g, 0, none⟩), pv p A c] w (PutPost w g n p) := by
  by_cases he : err p = 0
  · exact (put_good g n w p A c h h0 hn hr hl hz he).mono fun _ _ h => ⟨fun _ => h, fun q => absurd he q⟩
  · exact (put_bad g n w p A c h hr hl hz he).mono fun _ _ h => ⟨fun q => absurd q he, fun _ => h⟩
end Go.Proofs.Ytcnblgienombeaa.PagePut
