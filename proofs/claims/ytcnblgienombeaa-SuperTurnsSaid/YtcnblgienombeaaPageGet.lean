/- The contract of Get. -/
import Derived.Test.YtcnblgienombeaaPageIs
namespace Go.Proofs.Ytcnblgienombeaa.PageGet
open Go.RowKit Base PagePlain PageSmall PageBytes PageLay PagePut PageCut PageTold PageTold2 PageIs SumMem SumFill SumOf SumPlain

theorem sub_size (l : List UInt8) (o n : Nat) : (sub l o n).size ≤ n := by
  show ((l.drop o).take n).toArray.size ≤ n
  simp; omega
theorem cuts_small (l : List UInt8) (n s e : Nat) (cs : List ByteArray) (h : cuts l n s e = some cs) : cs.length = n ∧ ∀ q ∈ cs, q.size ≤ 255 := by
  induction n generalizing s e cs with
  | zero => simp only [cuts, Option.some.injEq] at h; subst h; simp
  | succ n ih =>
    simp only [cuts] at h
    split at h
    · cases hc : cuts l n (s + 2) (gt l s) with
      | none => rw [hc] at h; cases h
      | some ds =>
        rw [hc] at h
        simp only [Option.map_some, Option.some.injEq] at h
        subst h
        obtain ⟨h1, h2⟩ := ih _ _ _ hc
        refine ⟨by simp [h1], fun q hq => ?_⟩
        rcases List.mem_cons.1 hq with e | e
        · subst e
          have := sub_size l (gt l s) (gt l (s + 1))
          have := gt_lt l (s + 1)
          omega
        · exact h2 q e
    · cases h
theorem told_small {l : List UInt8} {p : Pg} (h : told l = some p) : p.cells.length ≤ 1000 ∧ ∀ q ∈ p.cells, q.size ≤ 1000 := by
  unfold told at h
  split at h
  · cases h
  · cases hc : cuts l (gt l 1) 14 252 with
    | none => rw [hc] at h; cases h
    | some cs =>
      rw [hc] at h
      simp only [Option.map_some, Option.some.injEq] at h
      subst h
      obtain ⟨h1, h2⟩ := cuts_small _ _ _ _ _ hc
      have := gt_lt l 1
      exact ⟨by show cs.length ≤ 1000; omega, fun q hq => by have := h2 q hq; omega⟩
theorem only_set {a w : World} {g : Nat} (h : Only g a w) (p : Addr) (hp : a.heap.size ≤ p.block) (u : Value) : Only g a (w.setCell p u) :=
  ⟨h.os, h.tape, h.output, by simpa [World.setCell] using h.size, fun i hi hne => (Below.heap_setCell w p u i (by rintro rfl; omega)).trans (h.block i hi hne)⟩
theorem only5 {W w : World} {g b : Nat} (h : Only g W w) (hb : W.heap.size ≤ b) (x0 x1 x2 x3 x4 : Value) :
    Only g W (((((w.setCell ⟨b, 0, none⟩ x0).setCell ⟨b, 1, none⟩ x1).setCell ⟨b, 2, none⟩ x2).setCell ⟨b, 3, none⟩ x3).setCell ⟨b, 4, none⟩ x4) :=
  only_set (only_set (only_set (only_set (only_set h ⟨b, 0, none⟩ hb _) ⟨b, 1, none⟩ hb _) ⟨b, 2, none⟩ hb _) ⟨b, 3, none⟩ hb _) ⟨b, 4, none⟩ hb _
theorem own5 {w : World} {B b c : Nat} {e : TypeId} {A : Option Addr} {xs : List Value} (h : Own w B e A c xs) (hb : b < B) (x0 x1 x2 x3 x4 : Value) :
    Own (((((w.setCell ⟨b, 0, none⟩ x0).setCell ⟨b, 1, none⟩ x1).setCell ⟨b, 2, none⟩ x2).setCell ⟨b, 3, none⟩ x3).setCell ⟨b, 4, none⟩ x4) B e A c xs :=
  own_set (own_set (own_set (own_set (own_set h ⟨b, 0, none⟩ hb _) ⟨b, 1, none⟩ hb _) ⟨b, 2, none⟩ hb _) ⟨b, 3, none⟩ hb _) ⟨b, 4, none⟩ hb _
theorem sm_far {w : World} {g : Nat} {d s n : Int} {T : Nat → Int} (h : Sm w g d s n T) (p : Addr) (hp : g ≠ p.block) (u : Value) : Sm (w.setCell p u) g d s n T := by
  obtain ⟨cs, h, r⟩ := h
  exact ⟨cs, at_far h hp u, r⟩
theorem ready_far {w : World} {g : Nat} {n : Int} (h : Ready w g n) (p : Addr) (hp : g ≠ p.block) (u : Value) : Ready (w.setCell p u) g n := by
  rcases h with ⟨T, h⟩ | h
  · exact .inl ⟨T, sm_far h p hp u⟩
  · exact .inr (sm_far h p hp u)
theorem ready5 {w : World} {g b : Nat} {n : Int} (h : Ready w g n) (hb : g ≠ b) (x0 x1 x2 x3 x4 : Value) :
    Ready (((((w.setCell ⟨b, 0, none⟩ x0).setCell ⟨b, 1, none⟩ x1).setCell ⟨b, 2, none⟩ x2).setCell ⟨b, 3, none⟩ x3).setCell ⟨b, 4, none⟩ x4) g n :=
  ready_far (ready_far (ready_far (ready_far (ready_far h ⟨b, 0, none⟩ hb _) ⟨b, 1, none⟩ hb _) ⟨b, 2, none⟩ hb _) ⟨b, 3, none⟩ hb _) ⟨b, 4, none⟩ hb _
/-- what Get of bytes comes to, in plain data: an error, or a page -/
def gotE (l : List UInt8) : Int ⊕ Pg := if l.length = 256 then if sum (l.take 252) = rd4 l 252 then match got l with | none => .inl 41 | some p => .inr p else .inl 42 else .inl 41
/-- what Get comes to -/
def GetPost (W : World) (g : Nat) (n : Int) (l : List UInt8) (e : Ending) (w' : World) : Prop :=
  (∃ n', n ≤ n' ∧ n' ≤ n + 252 ∧ Ready w' g n') ∧ Only g W w' ∧ match gotE l with
  | .inl k => e = .returned (.tuple #[nop, .int .i64 k])
  | .inr p => ∃ A' c', e = .returned (.tuple #[pv p A' c', .int .i64 0]) ∧ Own w' W.heap.size 9 A' c' (strs p.cells)
abbrev ZP : Obj := .cells #[.int .i64 0, .int .i64 0, .int .i64 0, .int .i64 0, .slice none 0 0] 37

set_option maxRecDepth 100000 in
set_option maxHeartbeats 1600000 in
theorem get_len (g : Nat) (n : Int) (w : World) (A : Option Addr) (m c : Nat) (l : List UInt8) (h : Ready w g n) (hm : m = l.length) (hl : l.length ≠ 256) :
    Calls Try.prog 22 #[.pointer (some ⟨g, 0, none⟩), .slice A m c] w (GetPost w g n l) := by
  subst hm
  have HP := Lib.hid (show gotE l = .inl 41 by unfold gotE; rw [if_neg hl])
  have hne : ((l.length : Int) != 256) = true := by simp; omega
  have hg := Ready.lt h
  have hb0 : Below w.heap.size w (w.alloc ZP) := (Below.refl _ _).alloc (Nat.le_refl _) _
  have hz0 : At (w.alloc ZP) w.heap.size 37 #[.int .i64 0, .int .i64 0, .int .i64 0, .int .i64 0, .slice none 0 0] := heap_alloc_new w _
  have HZ := Lib.hid hz0
  have HR := Lib.hid (Ready.below h hb0)
  have HO := Lib.hid (Only.ofBelow (g := g) hb0)
  clear hl h hb0 hz0
  go_enter Try.func22, Try.ntmps22
  go_wp2_with fail
  refine bodyPost_ret (results_cell_tmp_row rfl _ _ w.heap.size 37 _ (0, 0) _ rfl HZ.out Try.underlying37 rfl (by kernel_rfl)) rfl ?_
  refine ⟨⟨n, by omega, by omega, HR.out⟩, HO.out, ?_⟩
  rw [HP.out]
  rfl

set_option maxRecDepth 100000 in
set_option maxHeartbeats 3200000 in
theorem get_256 (g : Nat) (n : Int) (w : World) (ad : Addr) (m c : Nat) (l : List UInt8) (h : Ready w g n) (h0 : 0 ≤ n) (hn : n ≤ 900000000) (hr : RowX w g (some ad) (bv l)) (hm : m = l.length) (hl : l.length = 256) (hc : l.length ≤ c) :
    Calls Try.prog 22 #[.pointer (some ⟨g, 0, none⟩), .slice (some ad) m c] w (GetPost w g n l) := by
  subst hm
  have hne : ((l.length : Int) != 256) = false := by simp; omega
  have hgE : gotE l = if sum (l.take 252) = rd4 l 252 then match got l with | none => .inl 41 | some p => .inr p else .inl 42 := by unfold gotE; rw [if_pos hl]
  have hg := Ready.lt h
  have hb0 : Below w.heap.size w (w.alloc ZP) := (Below.refl _ _).alloc (Nat.le_refl _) _
  have hz0 : At (w.alloc ZP) w.heap.size 37 #[.int .i64 0, .int .i64 0, .int .i64 0, .int .i64 0, .slice none 0 0] := heap_alloc_new w _
  have hr0 : RowX (w.alloc ZP).drew g (some ad) (bv l) := hr.below (w' := (w.alloc ZP).drew) hb0.drew
  have hrdy : Ready (w.alloc ZP).drew g n := ready_drew (Ready.below h hb0)
  have hs1 := sl_h ad l.length c 252 (by omega) (by omega) 252 rfl
  obtain ⟨ad2, hs2, hrow2⟩ : ∃ ad2, (∀ w, (Instr.slice 27 (.slice (some ad) l.length c) (some (.int .i64 252)) none none).run Try.prog w = .ok (.slice (some ad2) (l.length - 252) (c - 252)) w) ∧ Row (w.alloc ZP).drew (w.alloc ZP).drew.heap.size (some ad2) (bv (l.drop 252)) :=
    ⟨ad.add 252, sl_l ad l.length c 252 (by omega) (by omega) 252 rfl, row_drop (rowX_row hr0) 252⟩
  have HRD := Lib.hid (show Calls Try.prog 35 #[.slice (some ad2) (l.length - 252) (c - 252)] (w.alloc ZP).drew fun e w' => e = .returned (.int .u32 (rd4 l 252 : Nat)) ∧ (w.alloc ZP).drew = w' by
    have := read_any (w.alloc ZP).drew (some ad2) (l.length - 252) (c - 252) (l.drop 252) (by simp) hrow2 (by rw [List.length_drop, hl]; omega) (by rw [List.length_drop]; omega)
    rwa [rd4_drop] at this)
  clear hrow2
  have hlt : (l.take 252).length = 252 := by rw [List.length_take, hl]; rfl
  have HRT := Lib.hid (right_any g n (w.alloc ZP).drew (some ad) 252 c (l.take 252) (rd4 l 252) hrdy h0 hn (by rw [hlt]; omega) hlt.symm (rowX_pre (m := l.drop 252) (by rw [List.take_append_drop]; exact hr0)) (Ready.lt hrdy))
  rw [hlt] at HRT
  have HL := Lib.hid hl
  clear hl hlt
  go_enter Try.func22, Try.ntmps22
  go_upto_region 3 with fail
  by_cases hsum : sum (l.take 252) = rd4 l 252
  · rw [if_pos hsum] at hgE
    rw [decide_eq_true hsum] at HRT
    clear hsum
    have HGE := Lib.hid hgE
    clear hgE
    generalize rd4 l 252 = v at HRD HRT
    go_region_with (first
      | (go_at_call 35; (with_reducible refine HRD.out.mono ?_); rintro e w' ⟨rfl, rfl⟩)
      | (go_at_call 34; (with_reducible refine HRT.out.mono ?_); rintro e w2 ⟨rfl, d2, o2⟩))
    have hz2 : At w2 w.heap.size 37 #[.int .i64 0, .int .i64 0, .int .i64 0, .int .i64 0, .slice none 0 0] := (o2.block _ (At.lt hz0) (fun e => by injection e with e; omega)).trans hz0
    have ho2 : Only g w w2 := (Only.ofBelow hb0).drew.trans o2
    have hr2 : RowX w2 g (some ad) (bv l) := hr0.only o2
    have htold := told_any w2 ad l c _ rfl (rowX_row hr2) HL.out hc
    have hgd : got l = (told l).bind fun p => if err p = 0 ∧ body p = l.take 252 then some p else none := rfl
    have hsz2 : w.heap.size < w2.heap.size := At.lt hz2
    clear hs1 hs2 hb0 hz0 hr0 hr o2 h hrdy
    unfold ToldPost at htold
    cases ht : told l with
    | none =>
      rw [ht] at htold hgd
      have HGD := Lib.hid (show got l = none from hgd)
      clear hgd ht
      go_wp2_with fail
      refine htold.mono ?_
      rintro e w3 ⟨hb3, rfl⟩
      have hz3 := (hb3.block _ hsz2).trans hz2
      have hz4 : At (w3.alloc ZP) w.heap.size 37 #[.int .i64 0, .int .i64 0, .int .i64 0, .int .i64 0, .slice none 0 0] := (Below.heap_alloc w3 _ _ (At.lt hz3)).trans hz3
      have hbz : Below w2.heap.size w2 (w3.alloc ZP) := hb3.alloc hb3.size _
      have ho4 := ho2.trans (Only.ofBelow (g := g) hbz)
      have hd4 : Ready (w3.alloc ZP) g (n + 252) := Ready.below (.inr d2) hbz
      have k0 : (w3.alloc ZP).cell? ⟨w.heap.size, 0, none⟩ = some (.int .i64 0) := by rw [At.cell hz4]; rfl
      have z0 := At.frozen hz4 0
      have k1 : (w3.alloc ZP).cell? ⟨w.heap.size, 1, none⟩ = some (.int .i64 0) := by rw [At.cell hz4]; rfl
      have z1 := At.frozen hz4 1
      have k2 : (w3.alloc ZP).cell? ⟨w.heap.size, 2, none⟩ = some (.int .i64 0) := by rw [At.cell hz4]; rfl
      have z2 := At.frozen hz4 2
      have k3 : (w3.alloc ZP).cell? ⟨w.heap.size, 3, none⟩ = some (.int .i64 0) := by rw [At.cell hz4]; rfl
      have z3 := At.frozen hz4 3
      have k4 : (w3.alloc ZP).cell? ⟨w.heap.size, 4, none⟩ = some (.slice none 0 0) := by rw [At.cell hz4]; rfl
      have z4 := At.frozen hz4 4
      have HZ := Lib.hid (set5 hz4 rfl (.int .i64 0) (.int .i64 0) (.int .i64 0) (.int .i64 0) (.slice none 0 0))
      clear hz2 hz3 hz4 htold d2 ho2 hbz hb3
      go_wp2_with fail
      refine bodyPost_ret (results_cell_tmp_row rfl _ _ w.heap.size 37 _ (0, 0) _ rfl HZ.out Try.underlying37 rfl (by kernel_rfl)) rfl ?_
      refine ⟨⟨n + 252, by omega, by omega, ready5 hd4 (show g ≠ w.heap.size by omega) _ _ _ _ _⟩, only5 ho4 (Nat.le_refl _) _ _ _ _ _, ?_⟩
      rw [HGE.out, HGD.out]
      rfl
    | some p =>
      rw [ht] at htold hgd
      have HGD := Lib.hid (show got l = if err p = 0 ∧ body p = l.take 252 then some p else none from hgd)
      obtain ⟨hsm1, hsm2⟩ := told_small ht
      clear hgd ht
      go_wp2_with fail
      refine htold.mono ?_
      rintro e w3 ⟨hb3, A', c', rfl, hown3⟩
      have hz3 := (hb3.block _ hsz2).trans hz2
      have hz4 : At (w3.alloc (.cells #[.int .i64 p.kind, .int .i64 p.no, .int .i64 p.epoch, .int .i64 p.link, .slice A' p.cells.length c'] 37)) w.heap.size 37 #[.int .i64 0, .int .i64 0, .int .i64 0, .int .i64 0, .slice none 0 0] := (Below.heap_alloc w3 _ _ (At.lt hz3)).trans hz3
      have hp4 : PgAt (w3.alloc (.cells #[.int .i64 p.kind, .int .i64 p.no, .int .i64 p.epoch, .int .i64 p.link, .slice A' p.cells.length c'] 37)) w3.heap.size p A' c' := heap_alloc_new w3 _
      have hbz : Below w2.heap.size w2 (w3.alloc (.cells #[.int .i64 p.kind, .int .i64 p.no, .int .i64 p.epoch, .int .i64 p.link, .slice A' p.cells.length c'] 37)) := hb3.alloc hb3.size _
      have hown4 := hown3.alloc (.cells #[.int .i64 p.kind, .int .i64 p.no, .int .i64 p.epoch, .int .i64 p.link, .slice A' p.cells.length c'] 37)
      have hch := check_any (w3.alloc (.cells #[.int .i64 p.kind, .int .i64 p.no, .int .i64 p.epoch, .int .i64 p.link, .slice A' p.cells.length c'] 37)) p A' c' hown4.row hsm1 hsm2
      clear hz3 hz2 htold hb3
      by_cases he : err p = 0
      · rw [he] at hch
        go_wp2_with fail
        refine hch.mono ?_
        rintro e w5 ⟨rfl, hb5⟩
        have hz5 := (hb5.block _ (At.lt hz4)).trans hz4
        have hp5 : PgAt w5 w3.heap.size p A' c' := (hb5.block _ (At.lt hp4)).trans hp4
        have hown5 := hown4.later hb5
        have hbz5 := Below.step hbz hb5
        obtain ⟨hro, hok⟩ := (err_zero p).1 he
        have his := isOf_any w5 p A' c' ad l c _ rfl hown5.row hro hok (rowX_row (hr2.below hbz5)) HL.out hc
        clear hz4 hp4 hown4 hbz hb5 hown3 hch
        have e0 : w5.cell? ⟨w3.heap.size, 0, none⟩ = some (.int .i64 p.kind) := by rw [At.cell hp5]; rfl
        have e1 : w5.cell? ⟨w3.heap.size, 1, none⟩ = some (.int .i64 p.no) := by rw [At.cell hp5]; rfl
        have e2 : w5.cell? ⟨w3.heap.size, 2, none⟩ = some (.int .i64 p.epoch) := by rw [At.cell hp5]; rfl
        have e3 : w5.cell? ⟨w3.heap.size, 3, none⟩ = some (.int .i64 p.link) := by rw [At.cell hp5]; rfl
        have e4 : w5.cell? ⟨w3.heap.size, 4, none⟩ = some (.slice A' p.cells.length c') := by rw [At.cell hp5]; rfl
        by_cases hbo : body p = l.take 252
        · rw [decide_eq_true hbo] at his
          have HGY := Lib.hid (show got l = some p by rw [HGD.out, if_pos ⟨he, hbo⟩])
          clear hbo he
          go_wp2_with fail
          refine his.mono ?_
          rintro e w6 ⟨rfl, hb6⟩
          have hz6 := (hb6.block _ (At.lt hz5)).trans hz5
          have hp6 : PgAt w6 w3.heap.size p A' c' := (hb6.block _ (At.lt hp5)).trans hp5
          have hown6 := hown5.later hb6
          have hbz6 := Below.step hbz5 hb6
          have ho6 := ho2.trans (Only.ofBelow (g := g) hbz6)
          have hd6 : Ready w6 g (n + 252) := Ready.below (.inr d2) hbz6
          clear e0 e1 e2 e3 e4
          have e0 : w6.cell? ⟨w3.heap.size, 0, none⟩ = some (.int .i64 p.kind) := by rw [At.cell hp6]; rfl
          have e1 : w6.cell? ⟨w3.heap.size, 1, none⟩ = some (.int .i64 p.no) := by rw [At.cell hp6]; rfl
          have e2 : w6.cell? ⟨w3.heap.size, 2, none⟩ = some (.int .i64 p.epoch) := by rw [At.cell hp6]; rfl
          have e3 : w6.cell? ⟨w3.heap.size, 3, none⟩ = some (.int .i64 p.link) := by rw [At.cell hp6]; rfl
          have e4 : w6.cell? ⟨w3.heap.size, 4, none⟩ = some (.slice A' p.cells.length c') := by rw [At.cell hp6]; rfl
          have k0 : w6.cell? ⟨w.heap.size, 0, none⟩ = some (.int .i64 0) := by rw [At.cell hz6]; rfl
          have z0 := At.frozen hz6 0
          have k1 : w6.cell? ⟨w.heap.size, 1, none⟩ = some (.int .i64 0) := by rw [At.cell hz6]; rfl
          have z1 := At.frozen hz6 1
          have k2 : w6.cell? ⟨w.heap.size, 2, none⟩ = some (.int .i64 0) := by rw [At.cell hz6]; rfl
          have z2 := At.frozen hz6 2
          have k3 : w6.cell? ⟨w.heap.size, 3, none⟩ = some (.int .i64 0) := by rw [At.cell hz6]; rfl
          have z3 := At.frozen hz6 3
          have k4 : w6.cell? ⟨w.heap.size, 4, none⟩ = some (.slice none 0 0) := by rw [At.cell hz6]; rfl
          have z4 := At.frozen hz6 4
          have HZ := Lib.hid (set5 hz6 rfl (.int .i64 p.kind) (.int .i64 p.no) (.int .i64 p.epoch) (.int .i64 p.link) (.slice A' p.cells.length c'))
          have HOW := Lib.hid (own_more (own5 hown6 hsz2 (.int .i64 p.kind) (.int .i64 p.no) (.int .i64 p.epoch) (.int .i64 p.link) (.slice A' p.cells.length c')) (Nat.le_of_lt hsz2))
          clear hz5 hp5 hown5 hbz5 his hz6 hp6 hown6 hbz6 hb6 ho2 d2
          go_wp2_with fail
          refine bodyPost_ret (results_cell_tmp_row rfl _ _ w.heap.size 37 _ (0, 0) _ rfl HZ.out Try.underlying37 rfl (by kernel_rfl)) rfl ?_
          refine ⟨⟨n + 252, by omega, by omega, ready5 hd6 (show g ≠ w.heap.size by omega) _ _ _ _ _⟩, only5 ho6 (Nat.le_refl _) _ _ _ _ _, ?_⟩
          rw [HGE.out, HGY.out]
          exact ⟨A', c', rfl, HOW.out⟩
        · rw [decide_eq_false hbo] at his
          have HGY := Lib.hid (show got l = none by rw [HGD.out, if_neg (fun q => hbo q.2)])
          clear hbo he
          go_wp2_with fail
          refine his.mono ?_
          rintro e w6 ⟨rfl, hb6⟩
          have hz6 := (hb6.block _ (At.lt hz5)).trans hz5
          have hbz6 := Below.step hbz5 hb6
          have ho6 := ho2.trans (Only.ofBelow (g := g) hbz6)
          have hd6 : Ready w6 g (n + 252) := Ready.below (.inr d2) hbz6
          clear e0 e1 e2 e3 e4
          have k0 : w6.cell? ⟨w.heap.size, 0, none⟩ = some (.int .i64 0) := by rw [At.cell hz6]; rfl
          have z0 := At.frozen hz6 0
          have k1 : w6.cell? ⟨w.heap.size, 1, none⟩ = some (.int .i64 0) := by rw [At.cell hz6]; rfl
          have z1 := At.frozen hz6 1
          have k2 : w6.cell? ⟨w.heap.size, 2, none⟩ = some (.int .i64 0) := by rw [At.cell hz6]; rfl
          have z2 := At.frozen hz6 2
          have k3 : w6.cell? ⟨w.heap.size, 3, none⟩ = some (.int .i64 0) := by rw [At.cell hz6]; rfl
          have z3 := At.frozen hz6 3
          have k4 : w6.cell? ⟨w.heap.size, 4, none⟩ = some (.slice none 0 0) := by rw [At.cell hz6]; rfl
          have z4 := At.frozen hz6 4
          have HZ := Lib.hid (set5 hz6 rfl (.int .i64 0) (.int .i64 0) (.int .i64 0) (.int .i64 0) (.slice none 0 0))
          clear hz5 hp5 hown5 hbz5 his hz6 hbz6 hb6 ho2 d2
          go_wp2_with fail
          refine bodyPost_ret (results_cell_tmp_row rfl _ _ w.heap.size 37 _ (0, 0) _ rfl HZ.out Try.underlying37 rfl (by kernel_rfl)) rfl ?_
          refine ⟨⟨n + 252, by omega, by omega, ready5 hd6 (show g ≠ w.heap.size by omega) _ _ _ _ _⟩, only5 ho6 (Nat.le_refl _) _ _ _ _ _, ?_⟩
          rw [HGE.out, HGY.out]
          rfl
      · have HGY := Lib.hid (show got l = none by rw [HGD.out, if_neg (fun q => he q.1)])
        have hen : (err p != 0) = true := by simpa using he
        generalize err p = er at hch hen
        clear he
        go_wp2_with fail
        refine hch.mono ?_
        rintro e w5 ⟨rfl, hb5⟩
        have hz5 := (hb5.block _ (At.lt hz4)).trans hz4
        have hbz5 := Below.step hbz hb5
        have ho5 := ho2.trans (Only.ofBelow (g := g) hbz5)
        have hd5 : Ready w5 g (n + 252) := Ready.below (.inr d2) hbz5
        have k0 : w5.cell? ⟨w.heap.size, 0, none⟩ = some (.int .i64 0) := by rw [At.cell hz5]; rfl
        have z0 := At.frozen hz5 0
        have k1 : w5.cell? ⟨w.heap.size, 1, none⟩ = some (.int .i64 0) := by rw [At.cell hz5]; rfl
        have z1 := At.frozen hz5 1
        have k2 : w5.cell? ⟨w.heap.size, 2, none⟩ = some (.int .i64 0) := by rw [At.cell hz5]; rfl
        have z2 := At.frozen hz5 2
        have k3 : w5.cell? ⟨w.heap.size, 3, none⟩ = some (.int .i64 0) := by rw [At.cell hz5]; rfl
        have z3 := At.frozen hz5 3
        have k4 : w5.cell? ⟨w.heap.size, 4, none⟩ = some (.slice none 0 0) := by rw [At.cell hz5]; rfl
        have z4 := At.frozen hz5 4
        have HZ := Lib.hid (set5 hz5 rfl (.int .i64 0) (.int .i64 0) (.int .i64 0) (.int .i64 0) (.slice none 0 0))
        clear hz4 hp4 hown4 hown3 hbz hb5 hch hz5 hbz5 ho2 d2
        go_wp2_with fail
        refine bodyPost_ret (results_cell_tmp_row rfl _ _ w.heap.size 37 _ (0, 0) _ rfl HZ.out Try.underlying37 rfl (by kernel_rfl)) rfl ?_
        refine ⟨⟨n + 252, by omega, by omega, ready5 hd5 (show g ≠ w.heap.size by omega) _ _ _ _ _⟩, only5 ho5 (Nat.le_refl _) _ _ _ _ _, ?_⟩
        rw [HGE.out, HGY.out]
        rfl
  · rw [if_neg hsum] at hgE
    rw [decide_eq_false hsum] at HRT
    clear hsum
    have HGE := Lib.hid hgE
    clear hgE
    generalize rd4 l 252 = v at HRD HRT
    go_region_with (first
      | (go_at_call 35; (with_reducible refine HRD.out.mono ?_); rintro e w' ⟨rfl, rfl⟩)
      | (go_at_call 34; (with_reducible refine HRT.out.mono ?_); rintro e w2 ⟨rfl, d2, o2⟩))
    have hz2 : At w2 w.heap.size 37 #[.int .i64 0, .int .i64 0, .int .i64 0, .int .i64 0, .slice none 0 0] := (o2.block _ (At.lt hz0) (fun e => by injection e with e; omega)).trans hz0
    have k0 : w2.cell? ⟨w.heap.size, 0, none⟩ = some (.int .i64 0) := by rw [At.cell hz2]; rfl
    have z0 := At.frozen hz2 0
    have k1 : w2.cell? ⟨w.heap.size, 1, none⟩ = some (.int .i64 0) := by rw [At.cell hz2]; rfl
    have z1 := At.frozen hz2 1
    have k2 : w2.cell? ⟨w.heap.size, 2, none⟩ = some (.int .i64 0) := by rw [At.cell hz2]; rfl
    have z2 := At.frozen hz2 2
    have k3 : w2.cell? ⟨w.heap.size, 3, none⟩ = some (.int .i64 0) := by rw [At.cell hz2]; rfl
    have z3 := At.frozen hz2 3
    have k4 : w2.cell? ⟨w.heap.size, 4, none⟩ = some (.slice none 0 0) := by rw [At.cell hz2]; rfl
    have z4 := At.frozen hz2 4
    have HZ := Lib.hid (set5 hz2 rfl (.int .i64 0) (.int .i64 0) (.int .i64 0) (.int .i64 0) (.slice none 0 0))
    have ho2 : Only g w w2 := (Only.ofBelow hb0).drew.trans o2
    clear hz2 hs1 hs2 hb0 hz0 hr0 hr o2
    go_wp2_with fail
    refine bodyPost_ret (results_cell_tmp_row rfl _ _ w.heap.size 37 _ (0, 0) _ rfl HZ.out Try.underlying37 rfl (by kernel_rfl)) rfl ?_
    refine ⟨⟨n + 252, by omega, by omega, ready5 (.inr d2) (show g ≠ w.heap.size by omega) _ _ _ _ _⟩, only5 ho2 (Nat.le_refl _) _ _ _ _ _, ?_⟩
    · rw [HGE.out]
      rfl
end Go.Proofs.Ytcnblgienombeaa.PageGet
