/- What the chapter's example fixes. -/
import Derived.Test.YtlcnnebnocjelaaPageRef
import Derived.Test.YtlcnnebnocjelaaPageGet
namespace Go.Proofs.Ytlcnnebnocjelaa.PageAwake
open Go.RowKit Base PagePlain PageSmall PageBytes PageLay PagePut PageCut PageTold PageTold2 PageIs PageGet PageSame PageSame2 PageRef SumMem SumFill SumOf SumPlain

/-- what each law comes to -/
def Law (w : World) (e : Ending) (w' : World) : Prop := e = .returned (.bool true) ∧ Below w.heap.size w w'
def P0 : Pg := ⟨1, 2, 3, 0, [⟨#[97, 98]⟩, ⟨#[]⟩]⟩
theorem p0_err : err P0 = 0 := by decide
theorem gotE_page (p : Pg) (h : err p = 0) : gotE (page p) = .inr p := by
  obtain ⟨hr, hg⟩ := (err_zero p).1 h
  unfold gotE
  have h1 : (page p).take 252 = body p := by unfold page; rw [← body_len p hr, List.take_left]
  rw [if_pos (page_len p hr), h1, rd4_page p hr, if_pos rfl]
  have : got (page p) = some p := got_body p hr hg _
  rw [this]
theorem row_of {w : World} {b : Nat} {t : TypeId} {l : List UInt8} (h : Arr w b t l) (o n : Nat) : Row w w.heap.size (some ((⟨b, 0, none⟩ : Addr).add o)) (bv ((l.drop o).take n)) := row_head (row_drop (Arr.row h) o) n
theorem sl_lh (ad : Addr) (n c i k : Nat) (hi : i < k) (hk : k ≤ c) (x y : Int) (hx : x = i) (hy : y = k) (w : World) : (Instr.slice 29 (.slice (some ad) n c) (some (.int .i64 x)) (some (.int .i64 y)) none).run Try.prog w = .ok (.slice (some (ad.add i)) (k - i) (c - i)) w := by
  subst hx hy
  rw [run_slice_lh w 29 (some ad) n c under_u8 .i64 .i64 i k (by omega) (by omega) (by omega), size_u8]
  simp only [sliced, Result.andThen, Int.toNat_natCast, Nat.mul_one]
  rw [if_neg (by omega)]
  rfl
theorem own_rowX {w : World} {B g c : Nat} {e : TypeId} {A : Option Addr} {xs : List Value} (h : Own w B e A c xs) (hg : g < B) : RowX w g A xs := fun k v hv => by
  obtain ⟨ad, e1, hb, hc⟩ := h.row k v hv
  refine ⟨ad, e1, hb, ?_, hc⟩
  have := (h.block ad.block (by rw [e1]; rfl)).1
  omega
theorem five {w : World} {g : Nat} {t : TypeId} {a b c d e : Value} (h : At w g t #[a, b, c, d, e]) : w.cell? ⟨g, 0, none⟩ = some a ∧ w.cell? ⟨g, 1, none⟩ = some b ∧ w.cell? ⟨g, 2, none⟩ = some c ∧ w.cell? ⟨g, 3, none⟩ = some d ∧ w.cell? ⟨g, 4, none⟩ = some e :=
  ⟨by rw [h.cell]; rfl, by rw [h.cell]; rfl, by rw [h.cell]; rfl, by rw [h.cell]; rfl, by rw [h.cell]; rfl⟩
theorem at_rowX {w : World} {g b : Nat} {t : TypeId} {vs : List Value} (h : At w b t vs.toArray) (hg : b ≠ g) : RowX w g (some ⟨b, 0, none⟩) vs := fun k v hv => by
  refine ⟨_, rfl, h.lt, hg, ?_⟩
  rw [add_zero_block, h.cell]
  simpa using hv
theorem at_only {w w' : World} {g b : Nat} {t : TypeId} {cs : Array Value} (h : At w b t cs) (ho : Only g w w') (hg : b ≠ g) : At w' b t cs := (ho.block b h.lt (fun e => hg (Option.some.inj e))).trans h
theorem at_below {w w' : World} {b : Nat} {t : TypeId} {cs : Array Value} (h : At w b t cs) (hb : Below w.heap.size w w') : At w' b t cs := (hb.block b h.lt).trans h
theorem p0_18 : (page P0).take 18 = [1, 2, 0, 0, 0, 2, 0, 0, 0, 3, 0, 0, 0, 0, 250, 2, 250, 0] := by decide +kernel
theorem p0_249 : ((page P0).drop 249).take 3 = [0, 97, 98] := by decide +kernel
theorem same_self (p : Pg) : same p p = true := (same_iff p p).2 rfl

set_option maxRecDepth 100000 in
set_option maxHeartbeats 3200000 in
theorem awake_any (w : World) : Calls Try.prog 11 #[] w (Law w) := by
  go_enter Try.func11, Try.ntmps11
  go_wp2_with fail
  refine (new_g _).mono ?_
  rintro e w1 ⟨g, rfl, hg, hg1, s1, b1⟩
  have hb2 : Below w.heap.size w ((w1.alloc (.cells #[.string ⟨#[97, 98]⟩, .string ⟨#[]⟩] 9)).alloc (.cells #[.int .i64 1, .int .i64 2, .int .i64 3, .int .i64 0, .slice (some ⟨w1.heap.size, 0, none⟩) 2 2] 24)) := (b1.alloc b1.size _).alloc (by have := b1.size; simp; omega) _
  have hbb : Below w1.heap.size w1 ((w1.alloc (.cells #[.string ⟨#[97, 98]⟩, .string ⟨#[]⟩] 9)).alloc (.cells #[.int .i64 1, .int .i64 2, .int .i64 3, .int .i64 0, .slice (some ⟨w1.heap.size, 0, none⟩) 2 2] 24)) := ((Below.refl _ _).alloc (Nat.le_refl _) _).alloc (by simp) _
  have hs2 : At ((w1.alloc (.cells #[.string ⟨#[97, 98]⟩, .string ⟨#[]⟩] 9)).alloc (.cells #[.int .i64 1, .int .i64 2, .int .i64 3, .int .i64 0, .slice (some ⟨w1.heap.size, 0, none⟩) 2 2] 24)) w1.heap.size 9 (strs P0.cells).toArray := by
    show _ = _
    rw [Below.heap_alloc _ _ _ (by simp), heap_alloc_new]
    rfl
  have ht2 : At ((w1.alloc (.cells #[.string ⟨#[97, 98]⟩, .string ⟨#[]⟩] 9)).alloc (.cells #[.int .i64 1, .int .i64 2, .int .i64 3, .int .i64 0, .slice (some ⟨w1.heap.size, 0, none⟩) 2 2] 24)) (w1.heap.size + 1) 24 #[.int .i64 1, .int .i64 2, .int .i64 3, .int .i64 0, .slice (some ⟨w1.heap.size, 0, none⟩) 2 2] := by
    have := heap_alloc_new (w1.alloc (.cells #[.string ⟨#[97, 98]⟩, .string ⟨#[]⟩] 9)) (.cells #[.int .i64 1, .int .i64 2, .int .i64 3, .int .i64 0, .slice (some ⟨w1.heap.size, 0, none⟩) 2 2] 24)
    show _ = _
    simpa using this
  have hput := put_good g 0 _ P0 (some ⟨w1.heap.size, 0, none⟩) 2 (Ready.below s1 hbb) (by omega) (by omega) (at_rowX hs2 (by omega)) (by decide) (by decide) p0_err
  go_wp2_with fail
  refine hput.mono ?_
  rintro e w3 ⟨b, rfl, hbw, ha3, r3, o3⟩
  have hw2 := hb2.size
  have hg2 : g < ((w1.alloc (.cells #[.string ⟨#[97, 98]⟩, .string ⟨#[]⟩] 9)).alloc (.cells #[.int .i64 1, .int .i64 2, .int .i64 3, .int .i64 0, .slice (some ⟨w1.heap.size, 0, none⟩) 2 2] 24)).heap.size := by simp; omega
  have hb3 : Below w.heap.size w w3 := hb2.trans (o3.below hg hg2)
  have hs3 := at_only hs2 o3 (show w1.heap.size ≠ g by omega)
  have ht3 := at_only ht2 o3 (show w1.heap.size + 1 ≠ g by omega)
  clear hput hs2 ht2 hb2 hbb s1 b1 o3
  have hbg : b ≠ g := by omega
  have hget := get_256 g (0 + 252) w3 ⟨b, 0, none⟩ 256 256 (page P0) r3 (by omega) (by omega) (Arr.rowX ha3 hbg) (page_len P0 (by decide)).symm (page_len P0 (by decide)) (by rw [page_len P0 (by decide)]; omega)
  have hg3 := Ready.lt r3
  clear hg2 hbw
  go_wp2_with fail
  refine hget.mono ?_
  rintro e w4 ⟨⟨n', h1, h2, r4⟩, o4, he⟩
  rw [gotE_page P0 p0_err] at he
  obtain ⟨A', c', rfl, hown4⟩ := he
  have hb4 : Below w.heap.size w w4 := hb3.trans (o4.below hg hg3)
  have hs4 := at_only hs3 o4 (show w1.heap.size ≠ g by omega)
  have ht4 := at_only ht3 o4 (show w1.heap.size + 1 ≠ g by omega)
  have ha4 := Arr.only ha3 o4 hbg
  clear hget hs3 ht3 ha3 hb3 r3 r4 o4 h1 h2 hg3
  have hbz : Below w4.heap.size w4 (w4.alloc (.cells #[.int .i64 P0.kind, .int .i64 P0.no, .int .i64 P0.epoch, .int .i64 P0.link, .slice A' P0.cells.length c'] 24)) := (Below.refl _ _).alloc (Nat.le_refl _) _
  have hb5 := Below.step hb4 hbz
  have hs5 := at_below hs4 hbz
  have ht5 := at_below ht4 hbz
  have ha5 := Arr.below ha4 hbz
  have hown5 := hown4.later hbz
  have hq5 : At (w4.alloc (.cells #[.int .i64 P0.kind, .int .i64 P0.no, .int .i64 P0.epoch, .int .i64 P0.link, .slice A' P0.cells.length c'] 24)) w4.heap.size 24 #[.int .i64 P0.kind, .int .i64 P0.no, .int .i64 P0.epoch, .int .i64 P0.link, .slice A' P0.cells.length c'] := heap_alloc_new w4 _
  clear hs4 ht4 ha4 hb4 hown4 hbz
  go_upto_region 7 with fail
  obtain ⟨w5, hw5⟩ : ∃ v, v = w4.alloc (.cells #[.int .i64 P0.kind, .int .i64 P0.no, .int .i64 P0.epoch, .int .i64 P0.link, .slice A' P0.cells.length c'] 24) := ⟨_, rfl⟩
  rw [← hw5] at hb5 hs5 ht5 ha5 hown5 hq5 ⊢
  clear hw5
  generalize w4.heap.size = b5 at *
  have hsl1 := sl_h ⟨b, 0, none⟩ 256 256 18 (by omega) (by omega) 18 rfl
  have hsl2 : ∀ w : World, (Instr.slice 29 (.slice (some ⟨b, 0, none⟩) 256 256) (some (.int .i64 249)) (some (.int .i64 252)) none).run Try.prog w = .ok (.slice (some ⟨b, 249, none⟩) 3 7) w := fun w => by
    have := sl_lh ⟨b, 0, none⟩ 256 256 249 252 (by omega) (by omega) 249 252 rfl rfl w
    rw [add_zero_block] at this
    exact this
  have hcv1 : (convert 29 9 (.slice (some ⟨b, 0, none⟩) 18 256)).run Try.prog w5 = .ok (.string ⟨#[1, 2, 0, 0, 0, 2, 0, 0, 0, 3, 0, 0, 0, 0, 250, 2, 250, 0]⟩) w5 := by
    have := conv_bytes (P := Try.prog) Try.underlying29 Try.underlying5 Try.underlying9 256 (row_head (Arr.row ha5) 18)
    rw [p0_18] at this
    exact this
  have hcv2 : (convert 29 9 (.slice (some ⟨b, 249, none⟩) 3 7)).run Try.prog w5 = .ok (.string ⟨#[0, 97, 98]⟩) w5 := by
    have := conv_bytes (P := Try.prog) Try.underlying29 Try.underlying5 Try.underlying9 7 (row_of ha5 249 3)
    rw [p0_249, add_zero_block] at this
    exact this
  have hrs := rsame_any w5 P0 P0 (some ⟨w1.heap.size, 0, none⟩) A' 2 c' (rowX_row (at_rowX hs5 (show w1.heap.size ≠ g by omega))) hown5.row (by decide)
  rw [same_self] at hrs
  obtain ⟨x0, x1, x2, x3, x4⟩ := five ht5
  obtain ⟨y0, y1, y2, y3, y4⟩ := five hq5
  clear ha5
  go_wp2_with fail
  refine hrs.mono ?_
  rintro e w6 ⟨rfl, hb6⟩
  have hs6 := at_below hs5 hb6
  have ht6 := at_below ht5 hb6
  have hq6 := at_below hq5 hb6
  have hown6 := hown5.later hb6
  have hbw6 := Below.step hb5 hb6
  clear hrs hs5 ht5 hq5 hown5 hb5 hb6 x0 x1 x2 x3 x4 y0 y1 y2 y3 y4 hcv1 hcv2 hsl1 hsl2
  have hps := same_any w6 P0 P0 (some ⟨w1.heap.size, 0, none⟩) A' 2 c' (rowX_row (at_rowX hs6 (show w1.heap.size ≠ g by omega))) hown6.row (by decide)
  rw [same_self] at hps
  obtain ⟨x0, x1, x2, x3, x4⟩ := five ht6
  obtain ⟨y0, y1, y2, y3, y4⟩ := five hq6
  go_wp2_with fail
  refine hps.mono ?_
  rintro e w7 ⟨rfl, hb7⟩
  have hs7 := at_below hs6 hb7
  have ht7 := at_below ht6 hb7
  have hbw7 := Below.step hbw6 hb7
  clear hps hs6 ht6 hq6 hown6 hbw6 hb7 x0 x1 x2 x3 x4 y0 y1 y2 y3 y4
  have hro := room_any w7 (some ⟨w1.heap.size, 0, none⟩) 2 2 P0.cells rfl (rowX_row (at_rowX hs7 (show w1.heap.size ≠ g by omega))) (by decide) (by decide)
  have hfi := fits_any w7 (some ⟨w1.heap.size, 0, none⟩) 2 2 P0.cells rfl (rowX_row (at_rowX hs7 (show w1.heap.size ≠ g by omega))) (by decide) (by decide)
  rw [show room P0.cells = 6 from rfl] at hro hfi
  rw [show decide (6 ≤ 236) = true from rfl] at hfi
  obtain ⟨x0, x1, x2, x3, x4⟩ := five ht7
  go_wp2_with fail
  refine hro.mono ?_
  rintro e w8 ⟨rfl, rfl⟩
  clear hro
  go_wp2_with fail
  refine hfi.mono ?_
  rintro e w8 ⟨rfl, rfl⟩
  clear hfi
  go_wp2_with fail
  go_ret
  exact ⟨rfl, hbw7⟩
end Go.Proofs.Ytlcnnebnocjelaa.PageAwake
