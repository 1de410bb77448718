/- same: a disk is the document's. -/
import Derived.Test.YtecdindjlfefhaaDiskRefRead
namespace Go.Proofs.Ytecdindjlfefhaa.DiskSame
open Go.RowKit Base DiskPlain DiskMem DiskSmall DiskRead DiskGrow DiskWrite DiskSync DiskCrash DiskSpoil DiskCopy DiskLaw DiskDo DiskPlumb DiskTwo DiskGrows DiskSim DiskSyncs DiskRef DiskRefRead Go.Maps

theorem conv_nil (w : World) : (convert 45 9 (.slice none 0 0)).run Try.prog w = .ok (.string ⟨#[]⟩) w := run_convert_bytes_nil w 45 5 Try.underlying45 Try.underlying5 0 0 9 Try.underlying9
def SameAt (w : World) (g : Nat) (S : DS) (F : Nat → Prop) (A1 A2 : Option Addr) (f : Int) (R : Nat → Prop) (B : Array Value) (wr : World) : Prop := At wr w.heap.size 31 B ∧ Dk wr g S F ∧ RefP wr S A1 A2 f R ∧ Below w.heap.size w wr
theorem SameAt.step {w wr wx : World} {g : Nat} {S : DS} {F : Nat → Prop} {A1 A2 : Option Addr} {f : Int} {R : Nat → Prop} {B : Array Value} (h : SameAt w g S F A1 A2 f R B wr) (hb : Below wr.heap.size wr wx) : SameAt w g S F A1 A2 f R B wx :=
  ⟨h.1.same (hb.block _ h.1.lt), h.2.1.below hb, h.2.2.1.below hb, h.2.2.2.trans (hb.mono h.2.2.2.size)⟩
def SameRel (w : World) (g : Nat) (S : DS) (F : Nat → Prop) (A1 A2 : Option Addr) (f : Int) (R : Nat → Prop) (B : Array Value) (i : Value) (wr : World) : Prop := ∃ z : Int, -1 ≤ z ∧ z ≤ S.last.length + 1 ∧ i = .int .i64 z ∧ SameAt w g S F A1 A2 f R B wr
section
variable {w : World} {g : Nat} {S : DS} {F : Nat → Prop} {A1 A2 : Option Addr} {c1 c2 : Nat} {f : Int} {R : Nat → Prop}
theorem ref_dead (hr : RefP w S A1 A2 f R) : (S.fused && f == 0) = S.dead := by
  cases hf : S.fused with
  | false => simp [DS.dead, hf]
  | true => rw [hr.fu hf]; simp [DS.dead, hf]
theorem read_b (h : Dk w g S F) (p : Nat) (hp : p < S.last.length) (hll : S.loose.length ≤ 100000000) : Calls Try.prog 19 #[.pointer (some ⟨g, 0, none⟩), .int .i64 (p : Int)] w fun e w' =>
    ∃ b : Nat, e = .returned (.tuple #[.slice (some ⟨b, 0, none⟩) 256 256, .int .i64 0]) ∧ w'.heap[b]? = some (.cells (pcell (S.rd p)) 5 (0, 0)) ∧ Below w.heap.size w w' :=
  (read_dk h p hp (by omega)).mono fun e w' ⟨he, hw⟩ => ⟨w.heap.size, he, by rw [hw]; exact heap_alloc_new w _, by rw [hw]; exact (Below.refl _ _).alloc (Nat.le_refl _) _⟩
theorem conv_b {wa wb : World} {b : Nat} {l : Pg} (hl : l.length = 256) (h : wa.heap[b]? = some (.cells (pcell l) 5 (0, 0))) (hb : Below wa.heap.size wa wb) : (convert 45 9 (.slice (some ⟨b, 0, none⟩) 256 256)).run Try.prog wb = .ok (.string (tx l)) wb :=
  conv_page hl (by rw [hb.block b (Array.getElem?_eq_some_iff.1 h).1]; exact h) 256
set_option maxRecDepth 100000 in
set_option maxHeartbeats 800000 in
theorem same_any (h : Dk w g S F) (hr : RefP w S A1 A2 f R) (hll : S.loose.length ≤ 100000000) :
    Calls Try.prog 15 #[.pointer (some ⟨g, 0, none⟩), .agg #[.int .i64 S.most, .slice A1 S.last.length c1, .slice A2 S.loose.length c2, .bool S.fused, .int .i64 f]] w fun e w' => e = .returned (.bool true) ∧ Below w.heap.size w w' := by
  have hb1 : Below w.heap.size w (w.alloc (.cells #[.int .i64 S.most, .slice A1 S.last.length c1, .slice A2 S.loose.length c2, .bool S.fused, .int .i64 f] 31)) := (Below.refl _ _).alloc (Nat.le_refl _) _
  have hln := h.ok.len4096
  have h1 := h.below hb1
  have hp1 := fun q => (pages_dk (h1.below (below_drewN (w.alloc (.cells #[.int .i64 S.most, .slice A1 S.last.length c1, .slice A2 S.loose.length c2, .bool S.fused, .int .i64 f] 31)) _ q))).mono (fun (e : Ending) (w' : World) (hq : _ ∧ (w.alloc (.cells #[.int .i64 S.most, .slice A1 S.last.length c1, .slice A2 S.loose.length c2, .bool S.fused, .int .i64 f] 31)).drewN q = w') => And.intro hq.1 hq.2.symm)
  have hp2 := fun q => (loose_dk (h1.below (below_drewN (w.alloc (.cells #[.int .i64 S.most, .slice A1 S.last.length c1, .slice A2 S.loose.length c2, .bool S.fused, .int .i64 f] 31)) _ q))).mono (fun (e : Ending) (w' : World) (hq : _ ∧ (w.alloc (.cells #[.int .i64 S.most, .slice A1 S.last.length c1, .slice A2 S.loose.length c2, .bool S.fused, .int .i64 f] 31)).drewN q = w') => And.intro hq.1 hq.2.symm)
  have hp3 := fun q => (dead_dk (h1.below (below_drewN (w.alloc (.cells #[.int .i64 S.most, .slice A1 S.last.length c1, .slice A2 S.loose.length c2, .bool S.fused, .int .i64 f] 31)) _ q))).mono (fun (e : Ending) (w' : World) (hq : _ ∧ (w.alloc (.cells #[.int .i64 S.most, .slice A1 S.last.length c1, .slice A2 S.loose.length c2, .bool S.fused, .int .i64 f] 31)).drewN q = w') => And.intro hq.1 hq.2.symm)
  have hd := ref_dead hr
  have HH := Lib.hid h
  have HR := Lib.hid hr
  have HB := Lib.hid (And.intro hb1 (fun q => (hb1.trans ((below_drewN _ _ q).mono hb1.size) : Below w.heap.size w ((w.alloc (.cells #[.int .i64 S.most, .slice A1 S.last.length c1, .slice A2 S.loose.length c2, .bool S.fused, .int .i64 f] 31)).drewN q))))
  simp only [← hd] at hp3
  clear hd h hr hb1 h1
  cases hfu : S.fused with
  | false =>
    simp only [hfu] at hp1 hp2 hp3 HB
    simp only [Bool.false_and] at hp3
    go_enter Try.func15, Try.ntmps15
    go_wp2_with fail
    go_quiet ((first | (go_at_call 18; exact Calls.quiet_of_same (hp1 _)) | (go_at_call 22; exact Calls.quiet_of_same (hp2 _)) | (go_at_call 26; exact Calls.quiet_of_same (hp3 _))))
    have HQ := Lib.hid (show SameAt w g S F A1 A2 f R #[.int .i64 S.most, .slice A1 S.last.length c1, .slice A2 S.loose.length c2, .bool false, .int .i64 f] ((w.alloc (.cells #[.int .i64 S.most, .slice A1 S.last.length c1, .slice A2 S.loose.length c2, .bool false, .int .i64 f] 31)).drewN nq) from ⟨heap_alloc_new w _, HH.out.below HB.out.1 |>.below (below_drewN _ _ _), HR.out.below HB.out.1 |>.below (below_drewN _ _ _), HB.out.2 nq⟩)
    clear hp1 hp2 hp3 HB
    go_wp2_with fail
    go_loopw [5] (fun i wr => SameRel w g S F A1 A2 f R #[.int .i64 S.most, .slice A1 S.last.length c1, .slice A2 S.loose.length c2, .bool false, .int .i64 f] i wr) (fun i _ => (S.last.length + 1 - intOf i).toNat)
    case atStart => exact ⟨-1, by omega, by omega, rfl, HQ.out⟩
    case round =>
      obtain ⟨z, hz1, hz2, rfl, hs⟩ := hrel
      clear HQ HH HR
      have b1 : wr.cell? ⟨w.heap.size, 1, none⟩ = some (.slice A1 S.last.length c1) := by rw [hs.1.cell]; rfl
      by_cases hzn : z ≤ S.last.length
      · by_cases hin : 0 ≤ z ∧ z < S.last.length
        · obtain ⟨p, rfl⟩ : ∃ p : Nat, z = p := ⟨z.toNat, by omega⟩
          have hlt : p < S.last.length := by omega
          have HRL := Lib.hid (rd_len hs.2.1.ok p hlt)
          have hr1 := read_b hs.2.1 p hlt hll
          have HS := Lib.hid hs
          clear hs
          go_wp2_with fail
          refine hr1.mono ?_
          rintro e w7 ⟨b, rfl, hb7, hbl7⟩
          clear hr1 b1
          have hs7 := HS.out.step hbl7
          have b0 : w7.cell? ⟨w.heap.size, 0, none⟩ = some (.int .i64 S.most) := by rw [hs7.1.cell]; rfl
          have b1 : w7.cell? ⟨w.heap.size, 1, none⟩ = some (.slice A1 S.last.length c1) := by rw [hs7.1.cell]; rfl
          have b2 : w7.cell? ⟨w.heap.size, 2, none⟩ = some (.slice A2 S.loose.length c2) := by rw [hs7.1.cell]; rfl
          have b3 : w7.cell? ⟨w.heap.size, 3, none⟩ = some (.bool false) := by rw [hs7.1.cell]; rfl
          have b4 : w7.cell? ⟨w.heap.size, 4, none⟩ = some (.int .i64 f) := by rw [hs7.1.cell]; rfl
          have hr2 := rread_any (c1 := c1) (c2 := c2) hs7.2.2.1 p hlt hln hll
          rw [hfu] at hr2
          have HB7 := Lib.hid hb7
          have H7 := Lib.hid hs7
          clear hb7 hbl7 hs7
          go_wp2_with fail
          refine hr2.mono ?_
          rintro e w8 ⟨rfl, hb8⟩
          clear hr2 b0 b1 b2 b3 b4
          have v1 := conv_b HRL.out HB7.out hb8
          have H8 := Lib.hid (H7.out.step hb8)
          clear hb8
          generalize tx (S.rd p) = s at v1 ⊢
          go_wp2_with fail
          go_roundw
          case rel => first | exact ⟨p + 1, by omega, by omega, by go_num, H8.out⟩ | ((repeat apply Exists.intro); exact ⟨⟨p + 1, by omega, by omega, by go_num, H8.out⟩, rfl⟩)
          case measure => simp [intOf]; omega
        · have HN := Lib.hid (show S.has z = false by simp [DS.has]; omega)
          have hr1 := read_no hs.2.1 z HN.out
          have HS := Lib.hid hs
          have b0 : wr.cell? ⟨w.heap.size, 0, none⟩ = some (.int .i64 S.most) := by rw [hs.1.cell]; rfl
          have b2 : wr.cell? ⟨w.heap.size, 2, none⟩ = some (.slice A2 S.loose.length c2) := by rw [hs.1.cell]; rfl
          have b3 : wr.cell? ⟨w.heap.size, 3, none⟩ = some (.bool false) := by rw [hs.1.cell]; rfl
          have b4 : wr.cell? ⟨w.heap.size, 4, none⟩ = some (.int .i64 f) := by rw [hs.1.cell]; rfl
          have hr2 := rread_no (w := wr) (A1 := A1) (A2 := A2) (c1 := c1) (c2 := c2) (f := f) z HN.out hln
          rw [hfu] at hr2
          clear hs hin
          go_wp2_with fail
          refine hr1.mono ?_
          rintro e w7 ⟨rfl, rfl⟩
          clear hr1
          go_wp2_with fail
          refine hr2.mono ?_
          rintro e w8 ⟨rfl, hb8⟩
          clear hr2 b0 b1 b2 b3 b4
          have v1 := conv_nil w8
          have H8 := Lib.hid (HS.out.step hb8)
          clear hb8
          go_wp2_with fail
          go_roundw
          case rel => first | exact ⟨z + 1, by omega, by omega, by go_num, H8.out⟩ | ((repeat apply Exists.intro); exact ⟨⟨z + 1, by omega, by omega, by go_num, H8.out⟩, rfl⟩)
          case measure => simp [intOf]; omega
      · go_wp2_with fail
        go_ret
        exact ⟨rfl, hs.2.2.2⟩
  | true =>
    by_cases hf0 : f = 0
    · subst hf0
      simp only [hfu] at hp1 hp2 hp3 HB
      have hz : ((true : Bool) && ((0 : Int) == 0)) = true := rfl
      rw [hz] at hp3
      clear hz
      go_enter Try.func15, Try.ntmps15
      go_wp2_with fail
      go_quiet ((first | (go_at_call 18; exact Calls.quiet_of_same (hp1 _)) | (go_at_call 22; exact Calls.quiet_of_same (hp2 _)) | (go_at_call 26; exact Calls.quiet_of_same (hp3 _))))
      have HQ := Lib.hid (show SameAt w g S F A1 A2 0 R #[.int .i64 S.most, .slice A1 S.last.length c1, .slice A2 S.loose.length c2, .bool true, .int .i64 0] ((w.alloc (.cells #[.int .i64 S.most, .slice A1 S.last.length c1, .slice A2 S.loose.length c2, .bool true, .int .i64 0] 31)).drewN nq) from ⟨heap_alloc_new w _, HH.out.below HB.out.1 |>.below (below_drewN _ _ _), HR.out.below HB.out.1 |>.below (below_drewN _ _ _), HB.out.2 nq⟩)
      clear hp1 hp2 hp3 HB
      go_wp2_with fail
      go_loopw [5] (fun i wr => SameRel w g S F A1 A2 0 R #[.int .i64 S.most, .slice A1 S.last.length c1, .slice A2 S.loose.length c2, .bool true, .int .i64 0] i wr) (fun i _ => (S.last.length + 1 - intOf i).toNat)
      case atStart => exact ⟨-1, by omega, by omega, rfl, HQ.out⟩
      case round =>
        obtain ⟨z, hz1, hz2, rfl, hs⟩ := hrel
        clear HQ HH HR
        have b1 : wr.cell? ⟨w.heap.size, 1, none⟩ = some (.slice A1 S.last.length c1) := by rw [hs.1.cell]; rfl
        by_cases hzn : z ≤ S.last.length
        · by_cases hin : 0 ≤ z ∧ z < S.last.length
          · obtain ⟨p, rfl⟩ : ∃ p : Nat, z = p := ⟨z.toNat, by omega⟩
            have hlt : p < S.last.length := by omega
            have HRL := Lib.hid (rd_len hs.2.1.ok p hlt)
            have hr1 := read_b hs.2.1 p hlt hll
            have HS := Lib.hid hs
            clear hs
            go_wp2_with fail
            refine hr1.mono ?_
            rintro e w7 ⟨b, rfl, hb7, hbl7⟩
            clear hr1 b1
            have hs7 := HS.out.step hbl7
            have b0 : w7.cell? ⟨w.heap.size, 0, none⟩ = some (.int .i64 S.most) := by rw [hs7.1.cell]; rfl
            have b1 : w7.cell? ⟨w.heap.size, 1, none⟩ = some (.slice A1 S.last.length c1) := by rw [hs7.1.cell]; rfl
            have b2 : w7.cell? ⟨w.heap.size, 2, none⟩ = some (.slice A2 S.loose.length c2) := by rw [hs7.1.cell]; rfl
            have b3 : w7.cell? ⟨w.heap.size, 3, none⟩ = some (.bool true) := by rw [hs7.1.cell]; rfl
            have b4 : w7.cell? ⟨w.heap.size, 4, none⟩ = some (.int .i64 0) := by rw [hs7.1.cell]; rfl
            have hr2 := rread_any (c1 := c1) (c2 := c2) hs7.2.2.1 p hlt hln hll
            rw [hfu] at hr2
            have HB7 := Lib.hid hb7
            have H7 := Lib.hid hs7
            clear hb7 hbl7 hs7
            go_wp2_with fail
            refine hr2.mono ?_
            rintro e w8 ⟨rfl, hb8⟩
            clear hr2 b0 b1 b2 b3 b4
            have v1 := conv_b HRL.out HB7.out hb8
            have H8 := Lib.hid (H7.out.step hb8)
            clear hb8
            generalize tx (S.rd p) = s at v1 ⊢
            go_wp2_with fail
            go_roundw
            case rel => first | exact ⟨p + 1, by omega, by omega, by go_num, H8.out⟩ | ((repeat apply Exists.intro); exact ⟨⟨p + 1, by omega, by omega, by go_num, H8.out⟩, rfl⟩)
            case measure => simp [intOf]; omega
          · have HN := Lib.hid (show S.has z = false by simp [DS.has]; omega)
            have hr1 := read_no hs.2.1 z HN.out
            have HS := Lib.hid hs
            have b0 : wr.cell? ⟨w.heap.size, 0, none⟩ = some (.int .i64 S.most) := by rw [hs.1.cell]; rfl
            have b2 : wr.cell? ⟨w.heap.size, 2, none⟩ = some (.slice A2 S.loose.length c2) := by rw [hs.1.cell]; rfl
            have b3 : wr.cell? ⟨w.heap.size, 3, none⟩ = some (.bool true) := by rw [hs.1.cell]; rfl
            have b4 : wr.cell? ⟨w.heap.size, 4, none⟩ = some (.int .i64 0) := by rw [hs.1.cell]; rfl
            have hr2 := rread_no (w := wr) (A1 := A1) (A2 := A2) (c1 := c1) (c2 := c2) (f := 0) z HN.out hln
            rw [hfu] at hr2
            clear hs hin
            go_wp2_with fail
            refine hr1.mono ?_
            rintro e w7 ⟨rfl, rfl⟩
            clear hr1
            go_wp2_with fail
            refine hr2.mono ?_
            rintro e w8 ⟨rfl, hb8⟩
            clear hr2 b0 b1 b2 b3 b4
            have v1 := conv_nil w8
            have H8 := Lib.hid (HS.out.step hb8)
            clear hb8
            go_wp2_with fail
            go_roundw
            case rel => first | exact ⟨z + 1, by omega, by omega, by go_num, H8.out⟩ | ((repeat apply Exists.intro); exact ⟨⟨z + 1, by omega, by omega, by go_num, H8.out⟩, rfl⟩)
            case measure => simp [intOf]; omega
        · go_wp2_with fail
          go_ret
          exact ⟨rfl, hs.2.2.2⟩
    · have hbq : (f == 0) = false := beq_eq_false_iff_ne.2 hf0
      simp only [hfu] at hp1 hp2 hp3 HB
      simp only [hbq, Bool.and_false] at hp3
      clear hf0
      go_enter Try.func15, Try.ntmps15
      go_wp2_with fail
      go_quiet ((first | (go_at_call 18; exact Calls.quiet_of_same (hp1 _)) | (go_at_call 22; exact Calls.quiet_of_same (hp2 _)) | (go_at_call 26; exact Calls.quiet_of_same (hp3 _))))
      have HQ := Lib.hid (show SameAt w g S F A1 A2 f R #[.int .i64 S.most, .slice A1 S.last.length c1, .slice A2 S.loose.length c2, .bool true, .int .i64 f] ((w.alloc (.cells #[.int .i64 S.most, .slice A1 S.last.length c1, .slice A2 S.loose.length c2, .bool true, .int .i64 f] 31)).drewN nq) from ⟨heap_alloc_new w _, HH.out.below HB.out.1 |>.below (below_drewN _ _ _), HR.out.below HB.out.1 |>.below (below_drewN _ _ _), HB.out.2 nq⟩)
      clear hp1 hp2 hp3 HB
      go_wp2_with fail
      go_loopw [5] (fun i wr => SameRel w g S F A1 A2 f R #[.int .i64 S.most, .slice A1 S.last.length c1, .slice A2 S.loose.length c2, .bool true, .int .i64 f] i wr) (fun i _ => (S.last.length + 1 - intOf i).toNat)
      case atStart => exact ⟨-1, by omega, by omega, rfl, HQ.out⟩
      case round =>
        obtain ⟨z, hz1, hz2, rfl, hs⟩ := hrel
        clear HQ HH HR
        have b1 : wr.cell? ⟨w.heap.size, 1, none⟩ = some (.slice A1 S.last.length c1) := by rw [hs.1.cell]; rfl
        by_cases hzn : z ≤ S.last.length
        · by_cases hin : 0 ≤ z ∧ z < S.last.length
          · obtain ⟨p, rfl⟩ : ∃ p : Nat, z = p := ⟨z.toNat, by omega⟩
            have hlt : p < S.last.length := by omega
            have HRL := Lib.hid (rd_len hs.2.1.ok p hlt)
            have hr1 := read_b hs.2.1 p hlt hll
            have HS := Lib.hid hs
            clear hs
            go_wp2_with fail
            refine hr1.mono ?_
            rintro e w7 ⟨b, rfl, hb7, hbl7⟩
            clear hr1 b1
            have hs7 := HS.out.step hbl7
            have b0 : w7.cell? ⟨w.heap.size, 0, none⟩ = some (.int .i64 S.most) := by rw [hs7.1.cell]; rfl
            have b1 : w7.cell? ⟨w.heap.size, 1, none⟩ = some (.slice A1 S.last.length c1) := by rw [hs7.1.cell]; rfl
            have b2 : w7.cell? ⟨w.heap.size, 2, none⟩ = some (.slice A2 S.loose.length c2) := by rw [hs7.1.cell]; rfl
            have b3 : w7.cell? ⟨w.heap.size, 3, none⟩ = some (.bool true) := by rw [hs7.1.cell]; rfl
            have b4 : w7.cell? ⟨w.heap.size, 4, none⟩ = some (.int .i64 f) := by rw [hs7.1.cell]; rfl
            have hr2 := rread_any (c1 := c1) (c2 := c2) hs7.2.2.1 p hlt hln hll
            rw [hfu] at hr2
            have HB7 := Lib.hid hb7
            have H7 := Lib.hid hs7
            clear hb7 hbl7 hs7
            go_wp2_with fail
            refine hr2.mono ?_
            rintro e w8 ⟨rfl, hb8⟩
            clear hr2 b0 b1 b2 b3 b4
            have v1 := conv_b HRL.out HB7.out hb8
            have H8 := Lib.hid (H7.out.step hb8)
            clear hb8
            generalize tx (S.rd p) = s at v1 ⊢
            go_wp2_with fail
            go_roundw
            case rel => first | exact ⟨p + 1, by omega, by omega, by go_num, H8.out⟩ | ((repeat apply Exists.intro); exact ⟨⟨p + 1, by omega, by omega, by go_num, H8.out⟩, rfl⟩)
            case measure => simp [intOf]; omega
          · have HN := Lib.hid (show S.has z = false by simp [DS.has]; omega)
            have hr1 := read_no hs.2.1 z HN.out
            have HS := Lib.hid hs
            have b0 : wr.cell? ⟨w.heap.size, 0, none⟩ = some (.int .i64 S.most) := by rw [hs.1.cell]; rfl
            have b2 : wr.cell? ⟨w.heap.size, 2, none⟩ = some (.slice A2 S.loose.length c2) := by rw [hs.1.cell]; rfl
            have b3 : wr.cell? ⟨w.heap.size, 3, none⟩ = some (.bool true) := by rw [hs.1.cell]; rfl
            have b4 : wr.cell? ⟨w.heap.size, 4, none⟩ = some (.int .i64 f) := by rw [hs.1.cell]; rfl
            have hr2 := rread_no (w := wr) (A1 := A1) (A2 := A2) (c1 := c1) (c2 := c2) (f := f) z HN.out hln
            rw [hfu] at hr2
            clear hs hin
            go_wp2_with fail
            refine hr1.mono ?_
            rintro e w7 ⟨rfl, rfl⟩
            clear hr1
            go_wp2_with fail
            refine hr2.mono ?_
            rintro e w8 ⟨rfl, hb8⟩
            clear hr2 b0 b1 b2 b3 b4
            have v1 := conv_nil w8
            have H8 := Lib.hid (HS.out.step hb8)
            clear hb8
            go_wp2_with fail
            go_roundw
            case rel => first | exact ⟨z + 1, by omega, by omega, by go_num, H8.out⟩ | ((repeat apply Exists.intro); exact ⟨⟨z + 1, by omega, by omega, by go_num, H8.out⟩, rfl⟩)
            case measure => simp [intOf]; omega
        · go_wp2_with fail
          go_ret
          exact ⟨rfl, hs.2.2.2⟩
end
end Go.Proofs.Ytecdindjlfefhaa.DiskSame
