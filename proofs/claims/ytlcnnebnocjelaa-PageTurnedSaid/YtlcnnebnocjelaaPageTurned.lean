/- The walk of PageTurned. -/
import Derived.Test.YtlcnnebnocjelaaPageOne
import Derived.Test.YtlcnnebnocjelaaSumTurn
namespace Go.Proofs.Ytlcnnebnocjelaa.PageTurned
open Go.RowKit Base PagePlain PageSmall PageBytes PageLay PagePut PageTold PageTold2 PageGet PageSame PageSame2 PageRef PageAwake PageRooms PageSameL PageOne SumMem SumFill SumOf SumPlain SumTurn

/-- what stands between two rounds: the page's bytes, some of their bits turned, ahead of the sum -/
structure TR (W : World) (p : Pg) (A : Option Addr) (c g x : Nat) (l : List UInt8) (w : World) : Prop where
  t : One W p A c g w
  r : Ready w g 252
  b : Arr w x 65 (l ++ be4 (sum (body p)))
  xg : x ≠ g
  xW : W.heap.size < x
theorem TR.set {W w : World} {p : Pg} {A : Option Addr} {c g x : Nat} {l : List UInt8} (h : TR W p A c g x l w) (k : Nat) (hk : k < l.length) (u : UInt8) : TR W p A c g x (l.set k u) (w.setCell ⟨x, k, none⟩ (.int .u8 (u.toNat : Int))) := by
  refine ⟨⟨PageCut.at_far h.t.a (show W.heap.size ≠ x from Nat.ne_of_lt h.xW) _, h.t.rw.below ((Below.refl _ _).setCell (by exact Nat.le_of_lt h.xW) _), h.t.bl.setCell (by exact Nat.le_of_lt h.xW) _, h.t.gb, by have := h.t.gx; simpa [World.setCell] using this⟩, ready_far h.r ⟨x, k, none⟩ (fun e => h.xg e.symm) _, ?_, h.xg, h.xW⟩
  have := Arr.set h.b k u
  rwa [List.set_append_left _ _ hk] at this
theorem nop_page : nop = pv ⟨0, 0, 0, 0, []⟩ none 0 := rfl
theorem bad_sum {p : Pg} {l : List UInt8} (hl : l.length = 252) (h : sum l ≠ sum (body p)) : gotE (l ++ be4 (sum (body p))) = .inl 42 := by
  have h1 : (l ++ be4 (sum (body p))).take 252 = l := by rw [← hl, List.take_left]
  have h2 : rd4 (l ++ be4 (sum (body p))) 252 = sum (body p) := rd4_be4 _ l [] _ 252 (sum_lt _) (by simp) hl
  unfold gotE
  rw [if_pos (by rw [List.length_append, hl, be4_len]), h1, h2, if_neg h]
set_option maxRecDepth 100000 in
set_option maxHeartbeats 6400000 in
theorem PageTurned_walk (p : Pg) (A : Option Addr) (c f v : Nat) (W : World) (hA : Row W W.heap.size A (strs p.cells)) (hx : p.cells.length ≤ maxLen) (hf : f < 65536) (hv : v < 4294967296) :
    Calls Try.prog 5 #[pv p A c, .int .u16 f, .int .u32 v] W (Law W) := by
  have hnot : ∀ (x : Bool) (w : World), (Op.unary .not (.bool x)).run Try.prog w = .ok (.bool (!x)) w := fun _ _ => rfl
  by_cases f1 : Few p.cells
  · have hfa := fun (x : World) (h : Row x x.heap.size A (strs p.cells)) => few_page x p A c h hx true ⟨fun _ => f1, fun _ => rfl⟩
    have hpl : p.cells.length ≤ 1000 := Nat.le_trans f1.1 (by omega)
    have hpz : ∀ z ∈ p.cells, z.size ≤ 1000 := fun z hz => Nat.le_trans (f1.2 z hz) (by omega)
    clear f1
    by_cases e1 : err p = 0
    · have hro := ((err_zero p).1 e1).1
      have HBL := Lib.hid (body_len p hro)
      have HE1 := Lib.hid e1
      have hm : (f : Int) % 2016 = ((f % 2016 : Nat) : Int) := by simp
      have hml : f % 2016 < 2016 := Nat.mod_lt _ (by decide)
      have HM := Lib.hid hm
      go_enter Try.func5, Try.ntmps5
      go_wp2_with fail
      refine (one_new W p A c hA).mono ?_
      rintro e w1 ⟨g, rfl, r1, t1⟩
      go_wp2_with fail
      refine (awake_any w1).mono ?_
      rintro e w2 ⟨rfl, b2⟩
      have t2 := t1.below b2
      have r2 := r1.below b2
      clear t1 r1 b2
      obtain ⟨h0, h1, h2, h3, h4⟩ := t2.facts
      go_wp2_with fail
      refine (hfa w2 (rowX_row t2.ra)).mono ?_
      rintro e w3 ⟨rfl, b3⟩
      have t3 := t2.below b3
      have r3 := r2.below b3
      clear h0 h1 h2 h3 h4 t2 r2 b3
      obtain ⟨h0, h1, h2, h3, h4⟩ := t3.facts
      go_wp2_with fail
      refine (put_any g 0 w3 p A c r3 (by omega) (by omega) t3.ra hpl hpz).mono ?_
      rintro e w4 ⟨hok, hbad⟩
      clear h0 h1 h2 h3 h4
      obtain ⟨x, rfl, hxw, ax, r4, o4⟩ := hok e1
      have t4 := t3.only o4
      have R0 : TR W p A c g x (turnK (body p) (f % 2016) v 0) w4 := ⟨t4, r4, ax, by have := t3.gx; omega, by have := t3.bl.size; have := t3.gx; have := t3.gb; omega⟩
      clear hbad hok t3 r3 o4 ax r4 t4 hfa e1 hro hpl hpz
      go_wp2_with fail
      go_loopw [10, 11] (fun t i wr => ∃ k : Nat, k ≤ 32 ∧ i = .int .i64 k ∧ t = .bool (tur 252 (f % 2016) v k) ∧ TR W p A c g x (turnK (body p) (f % 2016) v k) wr) (fun _ i _ => 32 - (intOf i).toNat)
      case atStart => exact ⟨0, by omega, rfl, rfl, R0⟩
      case round =>
        clear R0
        obtain ⟨k, hk, rfl, rfl, hrel⟩ := hrel
        generalize f % 2016 = at_ at *
        by_cases hlt : k < 32
        · have hand := and_bit v k hv
          by_cases hbit : v.testBit k = true
          · have hb1 : (bits .and .u32 ((v : Int) / 2 ^ k) 1 == 1) = true := by rw [hand, hbit]; rfl
            by_cases hin : at_ + k < 2016
            · have HT := Lib.hid (show turnK (body p) at_ v (k + 1) = turn (turnK (body p) at_ v k) (at_ + k) by rw [turnK, if_pos ⟨hbit, by rw [HBL.out]; omega⟩])
              have HU := Lib.hid (show tur 252 at_ v (k + 1) = true by rw [tur, if_pos ⟨hbit, by omega⟩])
              have hq : (at_ + k) / 8 < (turnK (body p) at_ v k).length := by rw [turnK_len, HBL.out]; omega
              have hc := hrel.b.cell ((at_ + k) / 8) (by rw [List.length_append]; omega)
              rw [List.getElem_append_left hq] at hc
              have hfz := hrel.b.frozen ((at_ + k) / 8)
              have HS := Lib.hid (hrel.set ((at_ + k) / 8) hq ((turnK (body p) at_ v k)[(at_ + k) / 8] ^^^ UInt8.ofNat (2 ^ ((at_ + k) % 8))))
              have HTU := Lib.hid (show turn (turnK (body p) at_ v k) (at_ + k) = (turnK (body p) at_ v k).set ((at_ + k) / 8) ((turnK (body p) at_ v k)[(at_ + k) / 8] ^^^ UInt8.ofNat (2 ^ ((at_ + k) % 8))) by
                unfold turn; rw [List.getElem?_eq_getElem hq]; rfl)
              generalize (turnK (body p) at_ v k)[(at_ + k) / 8] = cc at *
              clear hq hand hbit
              have hi8 : (at_ + k) / 8 < 256 := by omega
              go_wp2_with fail
              go_roundw
              case rel =>
                refine ⟨k + 1, by omega, by go_num, by rw [HU.out], ?_⟩
                rw [HT.out, HTU.out, xor_pow cc _ (by omega)]
                exact HS.out
              case measure => simp [intOf]; omega
            · have hin' : decide ((at_ : Int) + (k : Int) < 2016) = false := decide_eq_false (by omega)
              have HML := Lib.hid hml
              clear hml
              have HT := Lib.hid (show turnK (body p) at_ v (k + 1) = turnK (body p) at_ v k by rw [turnK, if_neg (fun q => hin (by have := q.2; rw [HBL.out] at this; omega))])
              have HU := Lib.hid (show tur 252 at_ v (k + 1) = tur 252 at_ v k by rw [tur, if_neg (fun q => hin (by have := q.2; omega))])
              clear hand hbit hin
              go_wp2_with fail
              go_roundw
              case rel => exact ⟨k + 1, by omega, by go_num, by rw [HU.out], by rw [HT.out]; exact hrel⟩
              case measure => simp [intOf]; omega
          · have hb1 : (bits .and .u32 ((v : Int) / 2 ^ k) 1 == 1) = false := by rw [hand, Bool.eq_false_iff.2 hbit]; rfl
            have HT := Lib.hid (show turnK (body p) at_ v (k + 1) = turnK (body p) at_ v k by rw [turnK, if_neg (fun q => hbit q.1)])
            have HU := Lib.hid (show tur 252 at_ v (k + 1) = tur 252 at_ v k by rw [tur, if_neg (fun q => hbit q.1)])
            clear hand hbit
            go_wp2_with fail
            go_roundw
            case rel => exact ⟨k + 1, by omega, by go_num, by rw [HU.out], by rw [HT.out]; exact hrel⟩
            case measure => simp [intOf]; omega
        · obtain rfl : k = 32 := by omega
          have hte := turn_end (body p) at_ v (by rw [HBL.out]; omega)
          have hts := tur_same (body p) at_ v 32
          rw [HBL.out] at hte hts
          have hlen : (turnK (body p) at_ v 32).length = 252 := by rw [turnK_len, HBL.out]
          generalize turnK (body p) at_ v 32 = l32 at *
          generalize tur 252 at_ v 32 = tq at *
          have hL : (l32 ++ be4 (sum (body p))).length = 256 := by rw [List.length_append, hlen, be4_len]
          have hget := get_256 g 252 wr ⟨x, 0, none⟩ 256 256 (l32 ++ be4 (sum (body p))) hrel.r (by omega) (by omega) (Arr.rowX hrel.b hrel.xg) hL.symm hL (by rw [hL]; omega)
          have tt := hrel.t
          clear hrel HM
          cases tq
          case true =>
            have HGE := Lib.hid (show gotE (l32 ++ be4 (sum (body p))) = .inl 42 from bad_sum hlen (fun e => by have := hte.1 e; cases this))
            clear hte hL hts hlen
            go_wp2_with fail
            refine hget.mono ?_
            rintro e w5 ⟨_, o5, he⟩
            rw [HGE.out] at he
            simp only at he
            subst he
            have t5 := tt.only o5
            clear hget HGE tt o5
            have t6 := t5.below ((Below.refl _ _).alloc (Nat.le_refl _) (.cells #[.int .i64 0, .int .i64 0, .int .i64 0, .int .i64 0, .slice none 0 0] 24))
            have hs := rsame_any (w5.alloc (.cells #[.int .i64 0, .int .i64 0, .int .i64 0, .int .i64 0, .slice none 0 0] 24)) ⟨0, 0, 0, 0, []⟩ ⟨0, 0, 0, 0, []⟩ none none 0 0 Row.nil Row.nil (by simp [maxLen])
            rw [same_self] at hs
            go_wp2_with fail
            refine hs.mono ?_
            rintro e w7 ⟨rfl, b7⟩
            have t7 := t6.below b7
            clear hs t6 b7
            go_wp2_with fail
            go_ret
            exact ⟨rfl, t7.bl⟩
          case false =>
            have HGE := Lib.hid (show gotE (l32 ++ be4 (sum (body p))) = .inr p by rw [hts rfl]; exact gotE_page p HE1.out)
            clear hte hL hts hlen
            go_wp2_with fail
            refine hget.mono ?_
            rintro e w5 ⟨_, o5, he⟩
            rw [HGE.out] at he
            simp only at he
            obtain ⟨A', c', rfl, hown⟩ := he
            have t5 := tt.only o5
            clear hget HGE tt o5
            have hbz : Below w5.heap.size w5 (w5.alloc (.cells #[.int .i64 p.kind, .int .i64 p.no, .int .i64 p.epoch, .int .i64 p.link, .slice A' p.cells.length c'] 24)) := (Below.refl _ _).alloc (Nat.le_refl _) _
            have t6 := t5.below hbz
            have hown6 := hown.later hbz
            obtain ⟨h0, h1, h2, h3, h4⟩ := t6.facts
            have hs := rsame_any (w5.alloc (.cells #[.int .i64 p.kind, .int .i64 p.no, .int .i64 p.epoch, .int .i64 p.link, .slice A' p.cells.length c'] 24)) p p A A' c c' (rowX_row t6.ra) hown6.row hx
            rw [same_self] at hs
            clear hbz hown hown6
            go_wp2_with fail
            refine hs.mono ?_
            rintro e w7 ⟨rfl, b7⟩
            have t7 := t6.below b7
            clear hs t6 b7 h0 h1 h2 h3 h4
            go_wp2_with fail
            go_ret
            exact ⟨rfl, t7.bl⟩
    · have e1b : (err p != 0) = true := by simpa using e1
      go_enter Try.func5, Try.ntmps5
      go_wp2_with fail
      refine (one_new W p A c hA).mono ?_
      rintro e w1 ⟨g, rfl, r1, t1⟩
      go_wp2_with fail
      refine (awake_any w1).mono ?_
      rintro e w2 ⟨rfl, b2⟩
      have t2 := t1.below b2
      have r2 := r1.below b2
      clear t1 r1 b2
      obtain ⟨h0, h1, h2, h3, h4⟩ := t2.facts
      go_wp2_with fail
      refine (hfa w2 (rowX_row t2.ra)).mono ?_
      rintro e w3 ⟨rfl, b3⟩
      have t3 := t2.below b3
      have r3 := r2.below b3
      clear h0 h1 h2 h3 h4 t2 r2 b3
      obtain ⟨h0, h1, h2, h3, h4⟩ := t3.facts
      go_wp2_with fail
      refine (put_any g 0 w3 p A c r3 (by omega) (by omega) t3.ra hpl hpz).mono ?_
      rintro e w4 ⟨hok, hbad⟩
      clear h0 h1 h2 h3 h4
      obtain ⟨rfl, r4, o4⟩ := hbad e1
      have t4 := t3.only o4
      clear hbad hok t3 r3 o4
      generalize err p = ep at *
      go_wp2_with fail
      go_ret
      exact ⟨rfl, t4.bl⟩
  · have hfa := fun (x : World) (h : Row x x.heap.size A (strs p.cells)) => few_page x p A c h hx false ⟨fun e => (by cases e), fun e => absurd e f1⟩
    go_enter Try.func5, Try.ntmps5
    go_wp2_with fail
    refine (one_new W p A c hA).mono ?_
    rintro e w1 ⟨g, rfl, r1, t1⟩
    go_wp2_with fail
    refine (awake_any w1).mono ?_
    rintro e w2 ⟨rfl, b2⟩
    have t2 := t1.below b2
    have r2 := r1.below b2
    clear t1 r1 b2
    obtain ⟨h0, h1, h2, h3, h4⟩ := t2.facts
    go_wp2_with fail
    refine (hfa w2 (rowX_row t2.ra)).mono ?_
    rintro e w3 ⟨rfl, b3⟩
    have t3 := t2.below b3
    have r3 := r2.below b3
    clear h0 h1 h2 h3 h4 t2 r2 b3
    obtain ⟨h0, h1, h2, h3, h4⟩ := t3.facts
    go_wp2_with fail
    refine (awakeL t3.bl).mono ?_
    rintro e w9 ⟨rfl, b9, b10⟩
    go_wp2_with fail
    go_ret
    exact ⟨rfl, b10⟩
end Go.Proofs.Ytlcnnebnocjelaa.PageTurned
