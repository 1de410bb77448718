/- DiskGrows, walked. -/
import Derived.Test.YtecdindjlfefhaaDiskTwo
namespace Go.Proofs.Ytecdindjlfefhaa.DiskGrows
open Go.RowKit Base DiskPlain DiskMem DiskSmall DiskRead DiskGrow DiskWrite DiskSync DiskCrash DiskSpoil DiskCopy DiskLaw DiskDo DiskPlumb DiskTwo Go.Maps

theorem idx_acts {A : Option Addr} {ab ao n c j : Nat} (hA : A = some ⟨ab, ao, none⟩) (hj : j < n) (w : World) : (Instr.indexAt 22 (.slice A n c) (.int .i64 (j : Int))).run Try.prog w = .ok (.pointer (some ⟨ab, ao + j * 6, none⟩)) w := by
  subst hA
  have h2 : (j : Int) < n := by omega
  go_simp
/-- string(b) of a block that is a page's -/
theorem conv_page {w : World} {b : Nat} {l : Pg} (hl : l.length = 256) (h : w.heap[b]? = some (.cells (pcell l) 5 (0, 0))) (c : Nat) : (convert 45 9 (.slice (some ⟨b, 0, none⟩) 256 c)).run Try.prog w = .ok (.string ⟨l.toArray⟩) w := by
  have := conv_bytes (P := Try.prog) (w := w) (B := b + 1) (src := 45) (e := 5) (dst := 9) Try.underlying45 Try.underlying5 Try.underlying9 (A := some ⟨b, 0, none⟩) (l := l) c (row_of_block h)
  rwa [hl] at this
/-- which acts this law lets be done -/
def okA (x : Ac) : Bool := few x && x.kind != 6
theorem okA_6 (x : Ac) (h : okA x = true) : x.kind ≠ 6 := by simp [okA] at h; exact h.2
theorem rd_len {S : DS} (h : S.Ok) (p : Nat) (hp : p < S.last.length) : (S.rd p).length = 256 := by
  have hs : ∀ (l : List (Nat × Pg)), (∀ x ∈ l, x.2.length = 256) → ∀ s : Pg, s.length = 256 → (over l p s).length = 256 := by
    intro l
    induction l with
    | nil => intro _ s hs; exact hs
    | cons x l ih =>
      intro hl s hs
      simp only [over, List.foldl_cons] at ih ⊢
      exact ih (fun y hy => hl y (by simp [hy])) _ (by split; · exact hl x (by simp)
                                                       · exact hs)
  exact hs _ h.wlen _ (getD_len h.pages hp)
theorem rd_grown {S : DS} (h : S.Ok) (n : Int) (p : Nat) : (S.grown n).rd p = if p < S.last.length then S.rd p else if p < (S.grown n).last.length then zeros else S.rd p := by
  unfold DS.rd
  by_cases hp : p < S.last.length
  · rw [if_pos hp]
    simp only [DS.grown]
    rw [List.getD_eq_getElem?_getD, List.getD_eq_getElem?_getD, List.getElem?_append_left hp]
  · rw [if_neg hp]
    have hm : ∀ x ∈ S.loose, x.1 ≠ p := fun x hx e => by have := h.wpage x hx; omega
    split
    · rename_i hq
      simp only [DS.grown] at hq ⊢
      rw [over_miss _ hm, List.getD_eq_getElem?_getD, List.getElem?_append_right (by omega), List.getElem?_replicate, if_pos (by simp at hq; omega)]
      rfl
    · rename_i hq
      simp only [DS.grown] at hq ⊢
      rw [over_miss _ hm, over_miss _ hm, List.getD_eq_getElem?_getD, List.getD_eq_getElem?_getD, List.getElem?_eq_none (by omega), List.getElem?_eq_none (by omega)]
theorem m_read_no {W w : World} {g : Nat} {S : DS} (h : Mine W w g S) (p : Nat) (hp : S.last.length ≤ p) : Calls Try.prog 19 #[.pointer (some ⟨g, 0, none⟩), .int .i64 (p : Int)] w fun e w' => e = .returned (.tuple #[.slice none 0 0, .int .i64 30]) ∧ w = w' := by
  obtain ⟨F, h1, _⟩ := h
  exact read_no h1 p (by simp [DS.has]; omega)
theorem grown_len (S : DS) (n : Int) : S.last.length ≤ (S.grown n).last.length ∧ n ≤ (S.grown n).last.length := by
  simp [DS.grown]; omega
def GrRel (w : World) (g : Nat) (S : DS) (wr : World) : Prop := Mine w wr g S
def GrRel2 (w : World) (g : Nat) (S : DS) (h : Nat) (T : DS) (wr : World) : Prop := Two w wr g S h T
set_option maxRecDepth 100000 in
set_option maxHeartbeats 1600000 in
theorem DiskGrows_walk (A : Option Addr) (c : Nat) (xs : List Ac) (n : Int) (w : World) (hA : Acts w A xs) (hxl : xs.length ≤ maxLen) : Calls Try.prog 7 #[.slice A xs.length c, .int .i64 n] w fun e w' => e = .returned (.bool true) ∧ Below w.heap.size w w' := by
  have hxl2 := hxl
  unfold maxLen at hxl2
  by_cases hn : n ≤ 40
  · have HA := Lib.hid hA
    have HX := Lib.hid hxl
    have hn40 : decide (40 < n) = false := by simp; omega
    clear hA hxl
    go_enter Try.func7, Try.ntmps7
    go_wp2_with fail
    refine (m_new w 40 (by omega) (by omega)).mono ?_
    rintro e w1 ⟨rfl, m0⟩
    go_wp2_with fail
    refine (awake_any _).mono ?_
    rintro e w1a ⟨rfl, hb1⟩
    have HR := Lib.hid (show GrRel w (w.heap.size + 1) (runs okA (new 40) (xs.take 0)) w1a from m0.step hb1)
    clear hb1 m0
    go_wp2_with fail
    go_loopw [7] (fun i wr => ∃ k : Nat, k ≤ xs.length ∧ k ≤ 30 ∧ i = .int .i64 k ∧ GrRel w (w.heap.size + 1) (runs okA (new 40) (xs.take k)) wr) (fun i _ => 30 - (intOf i).toNat)
    case atStart => exact ⟨0, by omega, by omega, rfl, HR.out⟩
    case round =>
      obtain ⟨k, hk, hk30, rfl, hr0⟩ := hrel
      have hr : Mine w wr (w.heap.size + 1) (runs okA (new 40) (xs.take k)) := hr0
      clear HR hr0
      have hll : (runs okA (new 40) (xs.take k)).loose.length ≤ 30 := by
        have := runs_loose okA (xs.take k) (new 40)
        rw [List.length_take, show (new 40).loose.length = 0 from rfl] at this
        omega
      by_cases hlt : k < xs.length ∧ k < 30
      · obtain ⟨hlt1, hlt2⟩ := hlt
        obtain ⟨x, hx⟩ : ∃ x, xs[k]? = some x := ⟨_, List.getElem?_eq_getElem hlt1⟩
        have hAr := HA.out.below hr.below
        obtain ⟨hok, ab, ao, K, ck, hA1, hab, hcl, hrow⟩ := hAr k x hx
        have hidx := idx_acts (n := xs.length) (c := c) hA1 hlt1
        have q0 := hcl 0 _ rfl
        have q1 := hcl 1 _ rfl
        have q2 := hcl 2 _ rfl
        have q3 := hcl 3 _ rfl
        have q4 := hcl 4 _ rfl
        have q5 := hcl 5 _ rfl
        rw [Nat.add_zero] at q0
        have hfw := few_any x K ck wr hok.s hok.k
        have hst := runs_take okA (new 40) xs k x hx
        have m1 := hr.alloc (.cells #[.int .i64 x.kind, .int .i64 x.n, .int .i64 x.page, .int .i64 x.at_, .string x.s, .slice K x.kept.length ck] 35)
        have HX1 := Lib.hid hA1
        have hab2 := hab
        have e2 : (wr.alloc (.cells #[.int .i64 x.kind, .int .i64 x.n, .int .i64 x.page, .int .i64 x.at_, .string x.s, .slice K x.kept.length ck] 35)).cell? ⟨ab, ao + k * 6, none⟩ = some (.int .i64 x.kind) := (World.cell?_alloc_lt _ _ _ hab2).trans q0
        clear hA1 hx hcl hAr
        cases hfx : few x with
        | false =>
          rw [hfx] at hfw
          have HS := Lib.hid (show runs okA (new 40) (xs.take (k + 1)) = runs okA (new 40) (xs.take k) by rw [hst]; simp [okA, hfx])
          clear hst
          go_wp2_with fail
          refine hfw.mono ?_
          rintro e w2 ⟨rfl, rfl⟩
          clear hfw
          go_wp2_with fail
          go_roundw
          case rel => exact ⟨k + 1, by omega, by omega, by go_num, by unfold GrRel; rw [HS.out]; exact m1⟩
          case measure => simp [intOf]; omega
        | true =>
          rw [hfx] at hfw
          by_cases h6 : x.kind = 6
          · have HS := Lib.hid (show runs okA (new 40) (xs.take (k + 1)) = runs okA (new 40) (xs.take k) by rw [hst]; simp [okA, h6])
            have b6 : (x.kind != 6) = false := by simp [h6]
            have H6 := Lib.hid h6
            clear hst h6
            go_wp2_with fail
            refine hfw.mono ?_
            rintro e w2 ⟨rfl, rfl⟩
            clear hfw
            go_wp2_with fail
            go_roundw
            case rel => exact ⟨k + 1, by omega, by omega, by go_num, by unfold GrRel; rw [HS.out]; exact m1⟩
            case measure => simp [intOf]; omega
          · have HS := Lib.hid (show runs okA (new 40) (xs.take (k + 1)) = act (runs okA (new 40) (xs.take k)) x by rw [hst]; simp [okA, hfx, h6])
            have b6 : (x.kind != 6) = true := by simp [h6]
            have H6 := Lib.hid h6
            have hdo := m_do m1 x K ck hok hfx (by omega) (hrow.belowSize ((Below.refl _ wr).alloc (Nat.le_refl _) _))
            clear hst h6
            go_wp2_with fail
            refine hfw.mono ?_
            rintro e w2 ⟨rfl, rfl⟩
            clear hfw
            have e1 : ∀ j v, wr.cell? ⟨ab, j, none⟩ = some v → (wr.alloc (.cells #[.int .i64 x.kind, .int .i64 x.n, .int .i64 x.page, .int .i64 x.at_, .string x.s, .slice K x.kept.length ck] 35)).cell? ⟨ab, j, none⟩ = some v := fun j v q => (World.cell?_alloc_lt _ _ _ hab2).trans q
            have r1 := e1 _ _ q1
            have r2 := e1 _ _ q2
            have r3 := e1 _ _ q3
            have r4 := e1 _ _ q4
            have r5 := e1 _ _ q5
            clear e1
            go_wp2_with fail
            refine hdo.mono ?_
            rintro e w3 ⟨rfl, m3⟩
            clear hdo
            go_wp2_with fail
            go_roundw
            case rel => exact ⟨k + 1, by omega, by omega, by go_num, by unfold GrRel; rw [HS.out]; exact m3⟩
            case measure => simp [intOf]; omega
      · have hS1 := runs_fused okA okA_6 (xs.take k) (new 40) rfl
        have hS2 := runs_most okA (xs.take k) (new 40)
        have hS3 := hr.ok
        generalize runs okA (new 40) (xs.take k) = S at *
        have hdd : S.dead = false := by simp [DS.dead, hS1]
        have hm40 : S.most = 40 := hS2
        have hgE : S.growE n = 0 := by unfold DS.growE; rw [if_neg (by omega), hdd]; rfl
        have hgS : S.grow n = S.grown n := by unfold DS.grow; rw [if_neg (by omega), hdd]; rfl
        have hlen := grown_len S n
        have hln1 := hS3.len4096
        have hln2 := (hS3.grown (n := n) (by omega)).len4096
        have HG := Lib.hid (And.intro hgE (And.intro hgS (And.intro hS3 (hS3.grown (n := n) (by omega)))))
        have HRD := Lib.hid (rd_grown hS3 n)
        have b1 : decide ((S.grown n).last.length < S.last.length) = false := by simp; omega
        have b2 : decide (((S.grown n).last.length : Int) < n) = false := by simp; omega
        clear hS1 hS2 hdd hm40 hgE hgS hS3 HA HX
        have hex : decide (k < xs.length) = false ∨ (decide (k < xs.length) = true ∧ decide ((k : Int) < 30) = false) := by
          by_cases q : k < xs.length
          · exact .inr ⟨by simpa using q, by simp; omega⟩
          · exact .inl (by simpa using q)
        have HL := Lib.hid hlt
        clear hlt
        rcases hex with hx1 | ⟨hx1, hx2⟩
        all_goals
          go_wp2_with fail
          refine (t_copy hr (by omega)).mono ?_
          rintro e w2 ⟨rfl, t2⟩
          generalize wr.heap.size = gc at t2 ⊢
          clear hr
          go_wp2_with fail
          refine (m_pages t2.fst).mono ?_
          rintro e w3 ⟨rfl, rfl⟩
          go_wp2_with fail
          refine (t_grow t2 n).mono ?_
          rintro e w4 ⟨rfl, t4⟩
          rw [HG.out.1]
          rw [HG.out.2.1] at t4
          clear t2
          go_wp2_with fail
          refine (m_pages t4.fst).mono ?_
          rintro e w5 ⟨rfl, rfl⟩
          have hl1 := hlen.1
          have hl2 := hlen.2
          go_wp2_with fail
          refine (m_pages t4.fst).mono ?_
          rintro e w6 ⟨rfl, rfl⟩
          go_wp2_with fail
          go_loopw [10] (fun i wx => ∃ p : Nat, p ≤ (S.grown n).last.length ∧ i = .int .i64 p ∧ GrRel2 w (w.heap.size + 1) (S.grown n) gc S wx) (fun i _ => (S.grown n).last.length - (intOf i).toNat)
          case atStart => exact ⟨0, by omega, rfl, t4⟩
          case round =>
            obtain ⟨p, hp, rfl, hr2⟩ := hrel
            clear t4
            have tx : Two w _ (w.heap.size + 1) (S.grown n) gc S := hr2
            clear hr2
            by_cases hlt : p < (S.grown n).last.length
            · have hrd := HRD.out p
              rw [if_pos hlt] at hrd
              have hrl := rd_len HG.out.2.2.2 p hlt
              have hmk := mk_run
              go_wp2_with fail
              refine (m_pages tx.fst).mono ?_
              rintro e w7 ⟨rfl, rfl⟩
              go_wp2_with fail
              refine (m_read tx.fst p hlt (by simp [DS.grown]; omega)).mono ?_
              rintro e w8 ⟨rfl, rfl⟩
              have t8 := tx.alloc (.cells (pcell ((S.grown n).rd p)) 5)
              clear tx
              by_cases hpl : p < S.last.length
              · rw [if_pos hpl] at hrd
                have t9 := t8.alloc (.cells (pcell (S.rd p)) 5)
                have v1 := conv_page (w := (wr.alloc (.cells (pcell ((S.grown n).rd p)) 5)).alloc (.cells (pcell (S.rd p)) 5)) (b := wr.heap.size) hrl (heap_alloc2_old wr _ _) 256
                have v2 := conv_page (w := (wr.alloc (.cells (pcell ((S.grown n).rd p)) 5)).alloc (.cells (pcell (S.rd p)) 5)) (b := wr.heap.size + 1) (hrd ▸ hrl) (heap_alloc2_new wr _ _) 256
                rw [hrd] at v1
                have hrc := m_read t8.snd p hpl (by omega)
                generalize (⟨(S.rd p).toArray⟩ : ByteArray) = s at v1 v2
                have HQ := Lib.hid t9
                have HE := Lib.hid hrd
                rw [hrd] at v2 t8 hrc HQ ⊢
                generalize pcell (S.rd p) = X at *
                clear t8 t9 hrd hrl HRD hmk
                go_wp2_with fail
                refine hrc.mono ?_
                rintro e w9 ⟨rfl, rfl⟩
                clear hrc
                go_wp2_with fail
                go_roundw
                case rel => first | exact ⟨p + 1, by omega, by go_num, HQ.out⟩ | ((repeat apply Exists.intro); exact ⟨⟨p + 1, by omega, by go_num, HQ.out⟩, rfl⟩)
                case measure => simp [intOf]; omega
              · rw [if_neg hpl] at hrd
                have t9 := t8.alloc (.cells zrow 5)
                have v1 := conv_page (w := (wr.alloc (.cells (pcell ((S.grown n).rd p)) 5)).alloc (.cells zrow 5)) (b := wr.heap.size) hrl (heap_alloc2_old wr _ _) 256
                have v2 := conv_page (w := (wr.alloc (.cells (pcell ((S.grown n).rd p)) 5)).alloc (.cells zrow 5)) (b := wr.heap.size + 1) zeros_len (heap_alloc2_new wr _ _) 256
                rw [hrd] at v1
                have hrc := m_read_no t8.snd p (by omega)
                generalize (⟨zeros.toArray⟩ : ByteArray) = s at v1 v2
                have HQ := Lib.hid t9
                have HE := Lib.hid hrd
                rw [hrd] at v2 t8 hrc HQ ⊢
                generalize pcell zeros = X at *
                generalize zrow = Z at *
                clear t8 t9 hrd hrl HRD
                go_wp2_with fail
                refine hrc.mono ?_
                rintro e w9 ⟨rfl, rfl⟩
                clear hrc
                go_wp2_with fail
                go_roundw
                case rel => first | exact ⟨p + 1, by omega, by go_num, HQ.out⟩ | ((repeat apply Exists.intro); exact ⟨⟨p + 1, by omega, by go_num, HQ.out⟩, rfl⟩)
                case measure => simp [intOf]; omega
            · obtain rfl : p = (S.grown n).last.length := by omega
              go_wp2_with fail
              refine (m_pages tx.fst).mono ?_
              rintro e w7 ⟨rfl, rfl⟩
              go_wp2_with fail
              go_ret
              exact ⟨rfl, tx.below⟩
  · clear hA hxl hxl2
    have hn2 : 40 < n := by omega
    clear hn
    go_enter Try.func7, Try.ntmps7
    go_wp2_with fail
    refine (m_new w 40 (by omega) (by omega)).mono ?_
    rintro e w1 ⟨rfl, m0⟩
    go_wp2_with fail
    refine (awake_any _).mono ?_
    rintro e w1a ⟨rfl, hb1⟩
    have m1 := m0.step hb1
    clear hb1 m0
    go_wp2_with fail
    refine (awake_any _).mono ?_
    rintro e w2 ⟨rfl, hb2⟩
    have m2 := m1.step hb2
    go_wp2_with fail
    go_ret
    exact ⟨rfl, m2.below⟩
end Go.Proofs.Ytecdindjlfefhaa.DiskGrows
