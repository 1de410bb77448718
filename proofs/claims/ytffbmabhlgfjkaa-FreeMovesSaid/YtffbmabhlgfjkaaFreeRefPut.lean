/- The contracts of the document's Put of free pages. -/
import Derived.Test.YtffbmabhlgfjkaaFreeMem
import Derived.OwnWalk
namespace Go.Proofs.Ytffbmabhlgfjkaa.FreeRefPut
open Go.RowKit Base FreePlain FreeMem

set_option maxRecDepth 100000 in
set_option maxHeartbeats 6400000 in
theorem rput_any (W : World) (A : Option Addr) (n c : Nat) (l : Fs) (g e : Int) (hn : n = l.length) (hr : Row W W.heap.size A (fr l)) (hu : Rise l) (hl : l.length ≤ 1000) :
    Calls Try.prog 18 #[.slice A n c, .int .i64 g, .int .i64 e] W fun r w' => ∃ A' m c', r = .returned (.slice A' m c') ∧ m = (ins g e l).length ∧ OwnF w' W.heap.size A' c' (ins g e l) ∧ Below W.heap.size W w' := by
  subst hn
  have HU := Lib.hid hu
  have HR := Lib.hid hr
  have hstart := OwnF.empty W (Nat.le_refl _)
  have b1 := al W (.cells #[] 25)
  clear hr hu
  go_enter Try.func18, Try.ntmps18
  go_wp2_with fail
  go_loopw [7, 8, 9] (fun o d i wr => ∃ (k m : Nat) (dn : Bool) (acc : Fs) (A' : Option Addr) (c' : Nat), k ≤ l.length ∧ Acc g e (l.take k) dn acc ∧ m = acc.length ∧ o = .slice A' m c' ∧ d = .bool dn ∧ i = .int .i64 k ∧ OwnF wr W.heap.size A' c' acc ∧ Below W.heap.size W wr) (fun _ _ i _ => l.length - (intOf i).toNat)
  case atStart => exact ⟨0, 0, false, [], _, 0, by omega, acc_nil g e, rfl, rfl, rfl, rfl, hstart, b1⟩
  case round =>
    clear hstart b1
    obtain ⟨k, m, dn, acc, A', c', hk, hacc, hm, rfl, rfl, rfl, hown, hb⟩ := hrel
    have HACC := Lib.hid hacc
    have HM := Lib.hid hm
    have HML := Lib.hid (show m ≤ 5000 by have h1 := hacc.len; rw [List.length_take] at h1; omega)
    clear hacc hm
    by_cases hlt : k < l.length
    · obtain ⟨ad, hA, hblk, hc1, hc2⟩ := row_at HR.out k hlt
      subst hA
      have HTK := Lib.hid (show l.take (k + 1) = l.take k ++ [((l[k]).1, (l[k]).2)] by rw [List.take_succ_eq_append_getElem hlt])
      have HUT := Lib.hid (show Rise (l.take k ++ [((l[k]).1, (l[k]).2)]) by rw [← HTK.out]; exact List.Pairwise.sublist (List.take_sublist _ _) HU.out)
      generalize (l[k]).1 = p1 at *
      generalize (l[k]).2 = p2 at *
      have HC := Lib.hid (fun (w' : World) (q : Below W.heap.size W w') => show w'.cell? (ad.add (k * 2)) = some (.int .i64 p1) ∧ w'.cell? ⟨(ad.add (k * 2)).block, (ad.add (k * 2)).off + 1, none⟩ = some (.int .i64 p2) from ⟨(q.cell (p := ad.add (k * 2)) (by rw [blk_add]; exact hblk)).trans hc1, (q.cell (p := ⟨(ad.add (k * 2)).block, (ad.add (k * 2)).off + 1, none⟩) (by show (ad.add (k * 2)).block < _; rw [blk_add]; exact hblk)).trans hc2⟩)
      clear hc1 hc2
      obtain ⟨cc1, cc2⟩ := HC.out wr hb
      cases dn with
      | true =>
        have hne : (p1 != g) = true := by simpa using acc_ne HACC.out HUT.out
        have hbs := hb.size
        have hg9 := al wr (.cells #[.int .i64 p1, .int .i64 p2] 25)
        obtain ⟨A2, c2, w2, hrun, hown2, hgr⟩ := run_append_f (hown.later hg9) (n := m) (m := 1) (k := m + 1) (c2 := 1) (news := [(p1, p2)]) HM.out rfl rfl (row_item wr (p1, p2)) (by have := HML.out; omega) (Nat.le_trans hbs hg9.size)
        have hb2 : Below W.heap.size W w2 := (hown.later hg9).below (hb.trans (hg9.mono hbs)) (by rw [← HM.out]; exact hgr) (Nat.le_refl _) (Nat.le_trans hbs hg9.size)
        clear hg9 hgr hown
        go_wp2_with (at_builtin; refine wpList_append_run rfl (.tmp 41) (.tmp 46) 22 22 rfl rfl rfl hrun ?_)
        clear hrun
        go_roundw
        case rel => exact ⟨k + 1, m + 1, true, acc ++ [(p1, p2)], A2, c2, by omega, by rw [HTK.out]; exact acc_in HACC.out, by have := HM.out; simp; omega, by go_num, rfl, by go_num, hown2, hb2⟩
        case measure => simp [intOf]; omega
      | false =>
        by_cases hlt1 : p1 < g
        · skip
          have HLT := Lib.hid hlt1
          have hge : (g ≤ p1) = False := by simp; omega
          have hne : (p1 != g) = true := by simp; omega
          clear hlt1
          have hbs := hb.size
          have hg9 := al wr (.cells #[.int .i64 p1, .int .i64 p2] 25)
          obtain ⟨A2, c2, w2, hrun, hown2, hgr⟩ := run_append_f (hown.later hg9) (n := m) (m := 1) (k := m + 1) (c2 := 1) (news := [(p1, p2)]) HM.out rfl rfl (row_item wr (p1, p2)) (by have := HML.out; omega) (Nat.le_trans hbs hg9.size)
          have hb2 : Below W.heap.size W w2 := (hown.later hg9).below (hb.trans (hg9.mono hbs)) (by rw [← HM.out]; exact hgr) (Nat.le_refl _) (Nat.le_trans hbs hg9.size)
          clear hg9 hgr hown
          go_wp2_with (at_builtin; refine wpList_append_run rfl (.tmp 41) (.tmp 46) 22 22 rfl rfl rfl hrun ?_)
          clear hrun
          go_roundw
          case rel => exact ⟨k + 1, m + 1, false, acc ++ [(p1, p2)], A2, c2, by omega, by rw [HTK.out]; exact acc_lt HACC.out HLT.out, by have := HM.out; simp; omega, by go_num, rfl, by go_num, hown2, hb2⟩
          case measure => simp [intOf]; omega
        · by_cases heq1 : p1 = g
          · skip
            have HE := Lib.hid heq1
            have hge : (g ≤ p1) = True := by simp; omega
            have hne : (p1 != g) = false := by simp; omega
            clear hlt1 heq1
            have hbs := hb.size
            have hg9 := al wr (.cells #[.int .i64 g, .int .i64 e] 25)
            obtain ⟨A2, c2, w2, hrun, hown2, hgr⟩ := run_append_f (hown.later hg9) (n := m) (m := 1) (k := m + 1) (c2 := 1) (news := [(g, e)]) HM.out rfl rfl (row_item wr (g, e)) (by have := HML.out; omega) (Nat.le_trans hbs hg9.size)
            have hb2 : Below W.heap.size W w2 := (hown.later hg9).below (hb.trans (hg9.mono hbs)) (by rw [← HM.out]; exact hgr) (Nat.le_refl _) (Nat.le_trans hbs hg9.size)
            clear hg9 hgr hown
            obtain ⟨d1, d2⟩ := HC.out w2 hb2
            go_wp2_with (at_builtin; refine wpList_append_run rfl (.tmp 28) (.tmp 32) 22 22 rfl rfl rfl hrun ?_)
            clear hrun d1 d2
            go_roundw
            case rel => exact ⟨k + 1, m + 1, true, acc ++ [(g, e)], A2, c2, by omega, by rw [HTK.out]; exact acc_eq HACC.out HE.out, by have := HM.out; simp; omega, by go_num, rfl, by go_num, hown2, hb2⟩
            case measure => simp [intOf]; omega
          · skip
            have HGT := Lib.hid (show g < p1 by omega)
            have hge : (g ≤ p1) = True := by simp; omega
            have hne : (p1 != g) = true := by simp; omega
            clear hlt1 heq1
            have hbs := hb.size
            have hg9 := al wr (.cells #[.int .i64 g, .int .i64 e] 25)
            obtain ⟨A2, c2, w2, hrun, hown2, hgr⟩ := run_append_f (hown.later hg9) (n := m) (m := 1) (k := m + 1) (c2 := 1) (news := [(g, e)]) HM.out rfl rfl (row_item wr (g, e)) (by have := HML.out; omega) (Nat.le_trans hbs hg9.size)
            have hb2 : Below W.heap.size W w2 := (hown.later hg9).below (hb.trans (hg9.mono hbs)) (by rw [← HM.out]; exact hgr) (Nat.le_refl _) (Nat.le_trans hbs hg9.size)
            clear hg9 hgr hown
            obtain ⟨d1, d2⟩ := HC.out w2 hb2
            have hbs2 := hb2.size
            have hg8 := al w2 (.cells #[.int .i64 p1, .int .i64 p2] 25)
            have HM2 := Lib.hid (show m + 1 = (acc ++ [(g, e)]).length by rw [HM.out]; simp)
            obtain ⟨A3, c3, w3, hrun2, hown3, hgr⟩ := run_append_f (hown2.later hg8) (n := m + 1) (m := 1) (k := m + 1 + 1) (c2 := 1) (news := [(p1, p2)]) HM2.out rfl rfl (row_item w2 (p1, p2)) (by have := HML.out; omega) (Nat.le_trans hbs2 hg8.size)
            have hb3 : Below W.heap.size W w3 := (hown2.later hg8).below (hb2.trans (hg8.mono hbs2)) (by rw [← HM2.out]; exact hgr) (Nat.le_refl _) (Nat.le_trans hbs2 hg8.size)
            clear hg8 hgr hown2
            go_wp2_with (at_builtin; first | refine wpList_append_run rfl (.tmp 28) (.tmp 32) 22 22 rfl rfl rfl hrun ?_ | refine wpList_append_run rfl (.tmp 41) (.tmp 46) 22 22 rfl rfl rfl hrun2 ?_)
            clear hrun hrun2 d1 d2
            go_roundw
            case rel => exact ⟨k + 1, m + 1 + 1, true, acc ++ [(g, e)] ++ [(p1, p2)], A3, c3, by omega, by rw [HTK.out]; exact acc_gt HACC.out HGT.out, by have := HM.out; simp; omega, by go_num, rfl, by go_num, hown3, hb3⟩
            case measure => simp [intOf]; omega
    · obtain rfl : k = l.length := by omega
      have hacc := HACC.out
      rw [List.take_of_length_le (Nat.le_refl _)] at hacc
      cases dn with
      | true =>
        have HA := Lib.hid (hacc.2 rfl).2
        go_wp2_with fail
        go_ret
        exact ⟨_, _, _, rfl, by rw [← HA.out]; exact HM.out, by rw [← HA.out]; exact hown, hb⟩
      | false =>
        have HA := Lib.hid (acc_end hacc)
        clear hacc
        have hbs := hb.size
        have hg9 := al wr (.cells #[.int .i64 g, .int .i64 e] 25)
        obtain ⟨A2, c2, w2, hrun, hown2, hgr⟩ := run_append_f (hown.later hg9) (n := m) (m := 1) (k := m + 1) (c2 := 1) (news := [(g, e)]) HM.out rfl rfl (row_item wr (g, e)) (by have := HML.out; omega) (Nat.le_trans hbs hg9.size)
        have hb2 : Below W.heap.size W w2 := (hown.later hg9).below (hb.trans (hg9.mono hbs)) (by rw [← HM.out]; exact hgr) (Nat.le_refl _) (Nat.le_trans hbs hg9.size)
        clear hg9 hgr hown
        go_wp2_with (at_builtin; refine wpList_append_run rfl (.tmp 50) (.tmp 54) 22 22 rfl rfl rfl hrun ?_)
        go_ret
        exact ⟨_, _, _, rfl, by rw [← HA.out, HM.out]; simp, by rw [← HA.out]; exact hown2, hb2⟩
/-- behind some items: whether one was taken, which, and the rest -/
def Tk (o : Int) (t : Fs) (b : Bool) (x : Int) (acc : Fs) : Prop := (b = false → x = 0 ∧ (∀ p ∈ t, ¬ p.2 ≤ o) ∧ acc = t) ∧ (b = true → (first o t).1 = some x ∧ acc = (first o t).2)
theorem tk_nil (o : Int) : Tk o [] false 0 [] := ⟨fun _ => ⟨rfl, fun _ h => (by cases h), rfl⟩, fun h => (by cases h)⟩
theorem first_len (o : Int) : ∀ t : Fs, (first o t).2.length ≤ t.length
  | [] => Nat.le_refl _
  | p :: t => by
    simp only [first]
    split
    · simp
    · have := first_len o t; simp; omega
theorem Tk.len {o x : Int} {t acc : Fs} {b : Bool} (h : Tk o t b x acc) : acc.length ≤ t.length := by
  cases b with
  | false => rw [(h.1 rfl).2.2]; omega
  | true => rw [(h.2 rfl).2]; exact first_len o t
theorem tk_in {o x : Int} {t acc : Fs} {p : Int × Int} (h : Tk o t true x acc) : Tk o (t ++ [p]) true x (acc ++ [p]) := by
  obtain ⟨h1, rfl⟩ := h.2 rfl
  have e := first_some [p] h1
  exact ⟨fun h => (by cases h), fun _ => ⟨by rw [e], by rw [e]⟩⟩
theorem tk_no {o x : Int} {t acc : Fs} {p : Int × Int} (h : Tk o t false x acc) (hp : ¬ p.2 ≤ o) : Tk o (t ++ [p]) false x (acc ++ [p]) := by
  obtain ⟨rfl, h1, rfl⟩ := h.1 rfl
  refine ⟨fun _ => ⟨rfl, fun q hq => ?_, rfl⟩, fun h => (by cases h)⟩
  rcases List.mem_append.1 hq with hq | hq
  · exact h1 q hq
  · rw [List.mem_singleton.1 hq]; exact hp
theorem tk_yes {o x : Int} {t acc : Fs} {p : Int × Int} (h : Tk o t false x acc) (hp : p.2 ≤ o) : Tk o (t ++ [p]) true p.1 acc := by
  obtain ⟨rfl, h1, rfl⟩ := h.1 rfl
  have e := first_none [p] h1
  exact ⟨fun h => (by cases h), fun _ => ⟨by rw [e]; simp [first, hp], by rw [e]; simp [first, hp]⟩⟩
theorem tk_end {o x : Int} {t acc : Fs} {b : Bool} (h : Tk o t b x acc) : x = (first o t).1.getD 0 ∧ b = (first o t).1.isSome ∧ acc = (first o t).2 := by
  cases b with
  | true =>
    obtain ⟨h1, h2⟩ := h.2 rfl
    rw [h1]
    exact ⟨rfl, rfl, h2⟩
  | false =>
    obtain ⟨rfl, h1, rfl⟩ := h.1 rfl
    have e := first_none [] h1
    rw [List.append_nil] at e
    rw [e]
    exact ⟨rfl, rfl, by simp [first]⟩
set_option maxRecDepth 100000 in
set_option maxHeartbeats 6400000 in
theorem rtake_any (W : World) (A : Option Addr) (n c : Nat) (l : Fs) (o : Int) (hn : n = l.length) (hr : Row W W.heap.size A (fr l)) (hl : l.length ≤ 1000) :
    Calls Try.prog 16 #[.slice A n c, .int .i64 o] W fun r w' => ∃ A' m c', r = .returned (.tuple #[.int .i64 ((first o l).1.getD 0), .slice A' m c', .bool (first o l).1.isSome]) ∧ m = (first o l).2.length ∧ OwnF w' W.heap.size A' c' (first o l).2 ∧ Below W.heap.size W w' := by
  subst hn
  have HR := Lib.hid hr
  have hstart := OwnF.empty W (Nat.le_refl _)
  have b1 := al W (.cells #[] 25)
  clear hr
  go_enter Try.func16, Try.ntmps16
  go_wp2_with fail
  go_loopw [7, 8, 9, 10] (fun u pg ok i wr => ∃ (k m : Nat) (b : Bool) (x : Int) (acc : Fs) (A' : Option Addr) (c' : Nat), k ≤ l.length ∧ Tk o (l.take k) b x acc ∧ m = acc.length ∧ u = .slice A' m c' ∧ pg = .int .i64 x ∧ ok = .bool b ∧ i = .int .i64 k ∧ OwnF wr W.heap.size A' c' acc ∧ Below W.heap.size W wr) (fun _ _ _ i _ => l.length - (intOf i).toNat)
  case atStart => exact ⟨0, 0, false, 0, [], _, 0, by omega, tk_nil o, rfl, rfl, rfl, rfl, rfl, hstart, b1⟩
  case round =>
    clear hstart b1
    obtain ⟨k, m, b, x, acc, A', c', hk, hacc, hm, rfl, rfl, rfl, rfl, hown, hb⟩ := hrel
    have HACC := Lib.hid hacc
    have HM := Lib.hid hm
    have HML := Lib.hid (show m ≤ 5000 by have h1 := hacc.len; rw [List.length_take] at h1; omega)
    clear hacc hm
    by_cases hlt : k < l.length
    · obtain ⟨ad, hA, hblk, hc1, hc2⟩ := row_at HR.out k hlt
      subst hA
      have HTK := Lib.hid (show l.take (k + 1) = l.take k ++ [((l[k]).1, (l[k]).2)] by rw [List.take_succ_eq_append_getElem hlt])
      generalize (l[k]).1 = p1 at *
      generalize (l[k]).2 = p2 at *
      have HC := Lib.hid (fun (w' : World) (q : Below W.heap.size W w') => show w'.cell? (ad.add (k * 2)) = some (.int .i64 p1) ∧ w'.cell? ⟨(ad.add (k * 2)).block, (ad.add (k * 2)).off + 1, none⟩ = some (.int .i64 p2) from ⟨(q.cell (p := ad.add (k * 2)) (by rw [blk_add]; exact hblk)).trans hc1, (q.cell (p := ⟨(ad.add (k * 2)).block, (ad.add (k * 2)).off + 1, none⟩) (by show (ad.add (k * 2)).block < _; rw [blk_add]; exact hblk)).trans hc2⟩)
      clear hc1 hc2
      obtain ⟨cc1, cc2⟩ := HC.out wr hb
      cases b with
      | true =>
        have hbs := hb.size
        have hg9 := al wr (.cells #[.int .i64 p1, .int .i64 p2] 25)
        obtain ⟨A2, c2, w2, hrun, hown2, hgr⟩ := run_append_f (hown.later hg9) (n := m) (m := 1) (k := m + 1) (c2 := 1) (news := [(p1, p2)]) HM.out rfl rfl (row_item wr (p1, p2)) (by have := HML.out; omega) (Nat.le_trans hbs hg9.size)
        have hb2 : Below W.heap.size W w2 := (hown.later hg9).below (hb.trans (hg9.mono hbs)) (by rw [← HM.out]; exact hgr) (Nat.le_refl _) (Nat.le_trans hbs hg9.size)
        clear hg9 hgr hown
        go_wp2_with (at_builtin; refine wpList_append_run rfl (.tmp 34) (.tmp 39) 22 22 rfl rfl rfl hrun ?_)
        clear hrun
        go_roundw
        case rel => exact ⟨k + 1, m + 1, true, x, acc ++ [(p1, p2)], A2, c2, by omega, by rw [HTK.out]; exact tk_in HACC.out, by have := HM.out; simp; omega, by go_num, rfl, rfl, by go_num, hown2, hb2⟩
        case measure => simp [intOf]; omega
      | false =>
        by_cases hle : p2 ≤ o
        · skip
          have HLT := Lib.hid hle
          have hge : (p2 ≤ o) = True := by simp; omega
          clear hle
          go_wp2_with fail
          go_roundw
          case rel => exact ⟨k + 1, m, true, p1, acc, A', c', by omega, by rw [HTK.out]; exact tk_yes HACC.out HLT.out, HM.out, by go_num, rfl, rfl, by go_num, hown, hb⟩
          case measure => simp [intOf]; omega
        · skip
          have HLT := Lib.hid hle
          have hge : (p2 ≤ o) = False := by simp; omega
          clear hle
          have hbs := hb.size
          have hg9 := al wr (.cells #[.int .i64 p1, .int .i64 p2] 25)
          obtain ⟨A2, c2, w2, hrun, hown2, hgr⟩ := run_append_f (hown.later hg9) (n := m) (m := 1) (k := m + 1) (c2 := 1) (news := [(p1, p2)]) HM.out rfl rfl (row_item wr (p1, p2)) (by have := HML.out; omega) (Nat.le_trans hbs hg9.size)
          have hb2 : Below W.heap.size W w2 := (hown.later hg9).below (hb.trans (hg9.mono hbs)) (by rw [← HM.out]; exact hgr) (Nat.le_refl _) (Nat.le_trans hbs hg9.size)
          clear hg9 hgr hown
          go_wp2_with (at_builtin; refine wpList_append_run rfl (.tmp 34) (.tmp 39) 22 22 rfl rfl rfl hrun ?_)
          clear hrun
          go_roundw
          case rel => exact ⟨k + 1, m + 1, false, x, acc ++ [(p1, p2)], A2, c2, by omega, by rw [HTK.out]; exact tk_no HACC.out HLT.out, by have := HM.out; simp; omega, by go_num, rfl, rfl, by go_num, hown2, hb2⟩
          case measure => simp [intOf]; omega
    · obtain rfl : k = l.length := by omega
      have hacc := HACC.out
      rw [List.take_of_length_le (Nat.le_refl _)] at hacc
      obtain ⟨e1, e2, e3⟩ := tk_end hacc
      have E1 := Lib.hid e1
      have E2 := Lib.hid e2
      have E3 := Lib.hid e3
      clear hacc e1 e2 e3
      go_wp2_with fail
      go_ret3
      exact ⟨_, _, _, by rw [← E1.out, ← E2.out]; rfl, by rw [← E3.out]; exact HM.out, by rw [← E3.out]; exact hown, hb⟩
end Go.Proofs.Ytffbmabhlgfjkaa.FreeRefPut
