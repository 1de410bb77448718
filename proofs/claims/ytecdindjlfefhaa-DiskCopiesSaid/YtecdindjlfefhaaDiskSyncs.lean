/- DiskSyncs, walked. -/
import Derived.Test.YtecdindjlfefhaaDiskSim
import Derived.Deep.RegionWith
namespace Go.Proofs.Ytecdindjlfefhaa.DiskSyncs
open Go.RowKit Base DiskPlain DiskMem DiskSmall DiskRead DiskGrow DiskWrite DiskSync DiskCrash DiskSpoil DiskCopy DiskLaw DiskDo DiskPlumb DiskTwo DiskGrows DiskSim Go.Maps

theorem idx_bools {A : Option Addr} {ad : Addr} {n c j : Nat} (hA : A = some ad) (hj : j < n) (w : World) : (Instr.indexAt 43 (.slice A n c) (.int .i64 (j : Int))).run Try.prog w = .ok (.pointer (some (ad.add j))) w := by
  subst hA
  have h2 : (j : Int) < n := by omega
  go_simp
/-- an act's six cells -/
def Six (w : World) (ab o : Nat) (x : Ac) (K : Option Addr) (ck : Nat) : Prop := w.cell? ⟨ab, o, none⟩ = some (.int .i64 x.kind) ∧ w.cell? ⟨ab, o + 1, none⟩ = some (.int .i64 x.n) ∧ w.cell? ⟨ab, o + 2, none⟩ = some (.int .i64 x.page) ∧ w.cell? ⟨ab, o + 3, none⟩ = some (.int .i64 x.at_) ∧ w.cell? ⟨ab, o + 4, none⟩ = some (.string x.s) ∧ w.cell? ⟨ab, o + 5, none⟩ = some (.slice K x.kept.length ck)
/-- an act that is read, in whatever world is as it was below -/
theorem act_at {W : World} {A : Option Addr} {xs : List Ac} (h : Acts W A xs) {i : Nat} {x : Ac} (hx : xs[i]? = some x) : AcOk x ∧ ∃ ab ao K ck, A = some ⟨ab, ao, none⟩ ∧ (∀ w, Below W.heap.size W w → Six w ab (ao + i * 6) x K ck) ∧ ∀ w, Below W.heap.size W w → Row w w.heap.size K (keptCells x.kept) := by
  obtain ⟨h1, ab, ao, K, ck, h2, h3, h4, h5⟩ := h i x hx
  refine ⟨h1, ab, ao, K, ck, h2, fun w hb => ?_, fun w hb => h5.belowSize hb⟩
  have e : ∀ j, w.cell? ⟨ab, j, none⟩ = W.cell? ⟨ab, j, none⟩ := fun j => hb.cell (p := ⟨ab, j, none⟩) h3
  exact ⟨(e _).trans (h4 0 _ rfl), (e _).trans (h4 1 _ rfl), (e _).trans (h4 2 _ rfl), (e _).trans (h4 3 _ rfl), (e _).trans (h4 4 _ rfl), (e _).trans (h4 5 _ rfl)⟩
theorem sync_loose (S : DS) : S.sync.loose.length ≤ S.loose.length := by
  unfold DS.sync
  split
  · omega
  · rw [burn_loose]; simp [DS.synced]
def okS (x : Ac) : Bool := few x && x.kind != 3 && x.kind != 6
/-- two disks that read the same, of few loose writes -/
def SyRel (w : World) (g h : Nat) (k : Nat) (wr : World) : Prop := ∃ S T, Two w wr g S h T ∧ Sim S T ∧ S.loose.length ≤ k ∧ T.loose.length ≤ k
set_option maxRecDepth 100000 in
set_option maxHeartbeats 1600000 in
theorem DiskSyncs_walk (A : Option Addr) (c : Nat) (xs : List Ac) (A1 : Option Addr) (c1 : Nat) (bs : List Bool) (w : World) (hA : Acts w A xs) (hxl : xs.length ≤ maxLen) (hB : Row w w.heap.size A1 (bs.map .bool)) (_hbl : bs.length ≤ maxLen) :
    Calls Try.prog 5 #[.slice A xs.length c, .slice A1 bs.length c1] w fun e w' => e = .returned (.bool true) ∧ Below w.heap.size w w' := by
  unfold maxLen at hxl _hbl
  have HA := Lib.hid hA
  have HB := Lib.hid hB
  clear hA hB
  go_enter Try.func5, Try.ntmps5
  go_wp2_with fail
  refine (m_new w 20 (by omega) (by omega)).mono ?_
  rintro e w1 ⟨rfl, m1⟩
  go_wp2_with fail
  refine (t_new m1 20 (by omega) (by omega)).mono ?_
  rintro e w2 ⟨rfl, t2⟩
  generalize w1.heap.size + 1 = gb at t2 ⊢
  clear m1
  go_wp2_with fail
  refine (awake_any _).mono ?_
  rintro e w3 ⟨rfl, hb3⟩
  have HR := Lib.hid (show SyRel w (w.heap.size + 1) gb 0 w3 from ⟨_, _, t2.step hb3, sim_refl rfl, by simp [new], by simp [new]⟩)
  clear t2 hb3
  go_wp2_with fail
  go_loopw [9] (fun i wr => ∃ k : Nat, k ≤ xs.length ∧ k ≤ 60 ∧ i = .int .i64 k ∧ SyRel w (w.heap.size + 1) gb k wr) (fun i _ => 60 - (intOf i).toNat)
  case atStart => exact ⟨0, by omega, by omega, rfl, HR.out⟩
  case round =>
    obtain ⟨k, hk, hk60, rfl, S, T, tt, hsim, hl1, hl2⟩ := hrel
    clear HR
    by_cases hlt : k < xs.length ∧ k < 60
    · obtain ⟨hlt1, hlt2⟩ := hlt
      obtain ⟨x, hx⟩ : ∃ x, xs[k]? = some x := ⟨_, List.getElem?_eq_getElem hlt1⟩
      obtain ⟨hok, ab, ao, K, ck, hA1, hsix, hrow⟩ := act_at HA.out hx
      have hidx := idx_acts (n := xs.length) (c := c) hA1 hlt1
      have HC := Lib.hid hsix
      have HW := Lib.hid hrow
      obtain ⟨q0, q1, q2, q3, q4, q5⟩ := hsix wr tt.below
      have hfw := few_any x K ck wr hok.s hok.k
      have t1 := tt.alloc (.cells #[.int .i64 x.kind, .int .i64 x.n, .int .i64 x.page, .int .i64 x.at_, .string x.s, .slice K x.kept.length ck] 35)
      have H6 := Lib.hid (hsix _ t1.below)
      clear hA1 hx hsix hrow tt
      by_cases hgo : few x = true ∧ x.kind ≠ 3 ∧ x.kind ≠ 6
      · obtain ⟨hfx, h3, h6⟩ := hgo
        rw [hfx] at hfw
        have b3 : (x.kind == 3) = false := beq_eq_false_iff_ne.2 h3
        have b6 : (x.kind == 6) = false := beq_eq_false_iff_ne.2 h6
        obtain ⟨hE, hsim2⟩ := sim_act hsim t1.fst.ok t1.snd.ok x h3 h6
        have ha1 := act_loose S x
        have ha2 := act_loose T x
        have HE := Lib.hid hE
        have HS2 := Lib.hid hsim2
        have hbe : (actE T x != actE T x) = false := by simp
        have hdo1 := t_do (t1.drewN 1) x K ck hok hfx (by omega) (HW.out _ (t1.drewN 1).below)
        have hdo2 : ∀ w4, Two w w4 (w.heap.size + 1) (act S x) gb T → Calls Try.prog 14 #[.pointer (some ⟨gb, 0, none⟩), .agg #[.int .i64 x.kind, .int .i64 x.n, .int .i64 x.page, .int .i64 x.at_, .string x.s, .slice K x.kept.length ck]] w4 fun e w' => e = .returned (.int .i64 (actE T x)) ∧ Two w w' gb (act T x) (w.heap.size + 1) (act S x) := fun w4 t4 => t_do t4.swap x K ck hok hfx (by omega) (HW.out _ t4.below)
        have HD2 := Lib.hid hdo2
        rw [hE, ← World.drew_is_drewN] at hdo1
        have HT1 := Lib.hid t1
        clear hE hsim2 hsim h3 h6 hdo2 t1
        go_wp2_with fail
        refine hfw.mono ?_
        rintro e w2 ⟨rfl, rfl⟩
        clear hfw q0 q1 q2 q3 q4 q5
        generalize wr.alloc (.cells #[.int .i64 x.kind, .int .i64 x.n, .int .i64 x.page, .int .i64 x.at_, .string x.s, .slice K x.kept.length ck] 35) = wb at *
        obtain ⟨r0, r1, r2, r3, r4, r5⟩ := H6.out
        go_wp2_with fail
        go_region_with (first | (go_at_call 14; (with_reducible refine hdo1.mono ?_); rintro e w4 ⟨rfl, t4⟩; obtain ⟨s0, s1, s2, s3, s4, s5⟩ := HC.out _ t4.below) | (go_at_call 14; (with_reducible refine (HD2.out _ t4).mono ?_); rintro e w5 ⟨rfl, t5⟩))
        all_goals
          clear r0 r1 r2 r3 r4 r5 s0 s1 s2 s3 s4 s5 hdo1 t4 hidx hbe
          by_cases hbk : k < bs.length
          · obtain ⟨bb, hbb⟩ : ∃ b, bs[k]? = some b := ⟨_, List.getElem?_eq_getElem hbk⟩
            obtain ⟨ad, hA2, _, hcb⟩ := (HB.out.below t5.below) k (.bool bb) (by simp [hbb])
            have hib := idx_bools (n := bs.length) (c := c1) hA2 hbk
            have HA2 := Lib.hid hA2
            clear hA2 hbb
            cases bb with
            | false =>
              go_wp2_with fail
              go_roundw
              case rel => first | exact ⟨k + 1, by omega, by omega, by go_num, ⟨_, _, t5.swap, HS2.out, by omega, by omega⟩⟩ | ((repeat apply Exists.intro); exact ⟨⟨k + 1, by omega, by omega, by go_num, ⟨_, _, t5.swap, HS2.out, by omega, by omega⟩⟩, rfl⟩)
              case measure => simp [intOf]; omega
            | true =>
              go_wp2_with fail
              refine (t_sync t5 (by omega)).mono ?_
              rintro e w6 ⟨rfl, t6⟩
              have hl6 : (act T x).sync.loose.length ≤ (act T x).loose.length := sync_loose _
              go_wp2_with fail
              go_roundw
              case rel => first | exact ⟨k + 1, by omega, by omega, by go_num, ⟨_, _, t6.swap, sim_sync HS2.out, by omega, by omega⟩⟩ | ((repeat apply Exists.intro); exact ⟨⟨k + 1, by omega, by omega, by go_num, ⟨_, _, t6.swap, sim_sync HS2.out, by omega, by omega⟩⟩, rfl⟩)
              case measure => simp [intOf]; omega
          · go_wp2_with fail
            go_roundw
            case rel => first | exact ⟨k + 1, by omega, by omega, by go_num, ⟨_, _, t5.swap, HS2.out, by omega, by omega⟩⟩ | ((repeat apply Exists.intro); exact ⟨⟨k + 1, by omega, by omega, by go_num, ⟨_, _, t5.swap, HS2.out, by omega, by omega⟩⟩, rfl⟩)
            case measure => simp [intOf]; omega
      · have HS := Lib.hid (show SyRel w (w.heap.size + 1) gb (k + 1) (wr.alloc (.cells #[.int .i64 x.kind, .int .i64 x.n, .int .i64 x.page, .int .i64 x.at_, .string x.s, .slice K x.kept.length ck] 35)) from ⟨S, T, t1, hsim, by omega, by omega⟩)
        cases hfx : few x with
        | false =>
          rw [hfx] at hfw
          clear hgo hsim t1 hfx
          go_wp2_with fail
          refine hfw.mono ?_
          rintro e w2 ⟨rfl, rfl⟩
          clear hfw
          go_wp2_with fail
          go_roundw
          case rel => exact ⟨k + 1, by omega, by omega, by go_num, HS.out⟩
          case measure => simp [intOf]; omega
        | true =>
          rw [hfx] at hfw
          obtain ⟨r0, r1, r2, r3, r4, r5⟩ := H6.out
          by_cases h3 : x.kind = 3
          · have b3 : (x.kind == 3) = true := by simp [h3]
            have H3 := Lib.hid h3
            clear hgo hsim t1 hfx h3
            go_wp2_with fail
            refine hfw.mono ?_
            rintro e w2 ⟨rfl, rfl⟩
            clear hfw
            go_wp2_with fail
            go_roundw
            case rel => exact ⟨k + 1, by omega, by omega, by go_num, HS.out⟩
            case measure => simp [intOf]; omega
          · have b3 : (x.kind == 3) = false := beq_eq_false_iff_ne.2 h3
            have b6 : (x.kind == 6) = true := by
              have h6 : x.kind = 6 := by
                rcases Decidable.em (x.kind = 6) with q | q
                · exact q
                · exact absurd ⟨hfx, h3, q⟩ hgo
              simp [h6]
            have H3 := Lib.hid h3
            clear hgo hsim t1 hfx h3
            go_wp2_with fail
            refine hfw.mono ?_
            rintro e w2 ⟨rfl, rfl⟩
            clear hfw
            go_wp2_with fail
            go_roundw
            case rel => exact ⟨k + 1, by omega, by omega, by go_num, HS.out⟩
            case measure => simp [intOf]; omega
    · have hex : decide (k < xs.length) = false ∨ (decide (k < xs.length) = true ∧ decide ((k : Int) < 60) = false) := by
        by_cases q : k < xs.length
        · exact .inr ⟨by simpa using q, by simp; omega⟩
        · exact .inl (by simpa using q)
      have HL := Lib.hid hlt
      have hln1 := tt.fst.ok.len4096
      have HSM := Lib.hid hsim
      have HO := Lib.hid tt.fst.ok
      have hlen := hsim.len
      have HLN := Lib.hid hlen
      clear hlt hsim hlen HA HB
      rcases hex with hx1 | ⟨hx1, hx2⟩
      all_goals
        go_wp2_with fail
        go_loopw [10] (fun i wx => ∃ p : Nat, p ≤ S.last.length ∧ i = .int .i64 p ∧ GrRel2 w (w.heap.size + 1) S gb T wx) (fun i _ => S.last.length - (intOf i).toNat)
        case atStart => exact ⟨0, by omega, rfl, tt⟩
        case round =>
          obtain ⟨p, hp, rfl, hr2⟩ := hrel
          clear tt
          have tx : Two w _ (w.heap.size + 1) S gb T := hr2
          clear hr2
          by_cases hlt : p < S.last.length
          · have hrd := HSM.out.rd p hlt
            have hrl := rd_len HO.out p hlt
            have t8 := tx.alloc (.cells (pcell (S.rd p)) 5)
            have t9 := t8.alloc (.cells (pcell (T.rd p)) 5)
            have v1 := conv_page (w := (wr.alloc (.cells (pcell (S.rd p)) 5)).alloc (.cells (pcell (T.rd p)) 5)) (b := wr.heap.size) hrl (heap_alloc2_old wr _ _) 256
            have v2 := conv_page (w := (wr.alloc (.cells (pcell (S.rd p)) 5)).alloc (.cells (pcell (T.rd p)) 5)) (b := wr.heap.size + 1) (hrd ▸ hrl) (heap_alloc2_new wr _ _) 256
            rw [hrd] at v1
            have hra := m_read tx.fst p hlt (by omega)
            have hrb := m_read t8.snd p (by rw [← HLN.out]; exact hlt) (by omega)
            generalize (⟨(T.rd p).toArray⟩ : ByteArray) = s at v1 v2
            have HQ := Lib.hid t9
            rw [hrd] at v2 hra hrb HQ
            have hpg := m_pages tx.fst
            generalize pcell (T.rd p) = X at *
            clear t8 t9 hrd hrl tx
            go_wp2_with fail
            refine hpg.mono ?_
            rintro e w7 ⟨rfl, rfl⟩
            clear hpg
            go_wp2_with fail
            refine hra.mono ?_
            rintro e w8 ⟨rfl, rfl⟩
            clear hra
            go_wp2_with fail
            refine hrb.mono ?_
            rintro e w9 ⟨rfl, rfl⟩
            clear hrb
            go_wp2_with fail
            go_roundw
            case rel => first | exact ⟨p + 1, by omega, by go_num, HQ.out⟩ | ((repeat apply Exists.intro); exact ⟨⟨p + 1, by omega, by go_num, HQ.out⟩, rfl⟩)
            case measure => simp [intOf]; omega
          · obtain rfl : p = S.last.length := by omega
            go_wp2_with fail
            refine (m_pages tx.fst).mono ?_
            rintro e w7 ⟨rfl, rfl⟩
            go_wp2_with fail
            refine (m_pages tx.fst).mono ?_
            rintro e w8 ⟨rfl, rfl⟩
            go_wp2_with fail
            refine (m_pages tx.snd).mono ?_
            rintro e w9 ⟨rfl, rfl⟩
            rw [← HLN.out]
            go_wp2_with fail
            go_ret
            exact ⟨by simp, tx.below⟩
end Go.Proofs.Ytecdindjlfefhaa.DiskSyncs
