/- What the laws' walks share: lists copied, awake, two lists of texts compared. -/
import Derived.Test.YtffbmabhlgfjkaaFreeAwake
import Derived.Test.YtffbmabhlgfjkaaFreeRefCheck
import Derived.Test.YtffbmabhlgfjkaaFreeRefPut
import Derived.Test.YtffbmabhlgfjkaaFreeRefCover
import Derived.Test.YtffbmabhlgfjkaaFreeRefCells
import Derived.Test.YtffbmabhlgfjkaaFreePlain2
import Derived.Test.YtffbmabhlgfjkaaStr
namespace Go.Proofs.Ytffbmabhlgfjkaa.FreeLaw
open Go.RowKit Base FreePlain FreePlain2 FreeMem FreeText FreeCellsOf FreePages FreeCheck FreeSl FreeOf FreeCells FreePut FreeFind FreeCov FreeCover FreeAwake

def Law (w : World) (e : Ending) (w' : World) : Prop := e = .returned (.bool true) ∧ Below w.heap.size w w'
theorem bst {g : Nat} {W w w' : World} (h : Below g W w) (hg : g ≤ w.heap.size) (hb : Below w.heap.size w w') : Below g W w' := h.trans (hb.mono hg)
theorem wpList_append_runG {P : Program} {w : World} {ops : Array Oper} {rest : List Oper} {o : Oper} {a : Act} {Q : Exit → Act → World → Prop} (hw : Region.wanted o (yielded ops a.tmps) = true) (s x : Operand) (t u : TypeId)
    (hop : o.op = Op.call { callee := Callee.builtin Builtin.append, args := #[s, x], argTypes := #[t, u] }) {vs vx v : Value} {w' : World} (hs : a.eval s = vs) (hx : a.eval x = vx)
    (hrun : (Builtin.append_ #[t, u] o.type #[vs, vx]).run P w = .ok v w') (h : wpList P ops Q rest (a.put o.dst v) w') : wpList P ops Q (o :: rest) a w := by
  refine wpList_step fun K hK => ?_
  rw [if_pos hw]
  unfold Oper.wp
  simp [execOp, hop, resolve, invoke, builtin, hs, hx, hrun, Result.andThen]
  exact hK _ _ h
/-- append([]api.Free{}, l...) -/
theorem copyF (w : World) (A : Option Addr) (n c : Nat) (l : Fs) (hn : n = l.length) (hr : Row w w.heap.size A (fr l)) (hl : l.length ≤ 1000) :
    ∃ A' c' w', (Builtin.append_ #[22, 22] 22 #[.slice (some ⟨w.heap.size, 0, none⟩) 0 0, .slice A n c]).run Try.prog (w.alloc (.cells #[] 25)) = .ok (.slice A' n c') w' ∧ OwnF w' w.heap.size A' c' l ∧ Below w.heap.size w w' := by
  have h0 := OwnF.empty w (Nat.le_refl w.heap.size)
  have b0 := al w (.cells #[] 25)
  obtain ⟨A', c', w', hrun, ho, hg⟩ := run_append_f h0 (n := 0) (m := n) (k := n) (c2 := c) (news := l) rfl hn (by omega) (hr.belowSize b0) (by omega) b0.size
  exact ⟨A', c', w', hrun, ho, h0.below b0 hg (Nat.le_refl _) b0.size⟩
/-- append([]int{}, l...) -/
theorem copyI (w : World) (A : Option Addr) (n c : Nat) (l : List Int) (hn : n = l.length) (hr : Row w w.heap.size A (ints l)) (hl : l.length ≤ 1000) :
    ∃ A' c' w', (Builtin.append_ #[44, 44] 44 #[.slice (some ⟨w.heap.size, 0, none⟩) 0 0, .slice A n c]).run Try.prog (w.alloc (.cells #[] 3)) = .ok (.slice A' n c') w' ∧ Own w' w.heap.size 3 A' c' (ints l) ∧ Below w.heap.size w w' := by
  subst hn
  have h0 : Own (w.alloc (.cells #[] 3)) w.heap.size 3 (some ⟨w.heap.size, 0, none⟩) 0 (ints []) := Own.empty _ _ (Nat.le_refl _)
  have b0 := al w (.cells #[] 3)
  obtain ⟨A', c', w', hrun, ho, hg⟩ := run_append_row (P := Try.prog) 44 FreeRefCover.el_i (c2 := c) h0 (hr.belowSize b0) (FreeRefCover.ints_one l) (by simp [ints, maxLen]; omega) (by simp [ints]; omega) b0.size
  rw [show (ints []).length = 0 from rfl, ints_len, Nat.zero_add] at hrun
  exact ⟨A', c', w', hrun, by simpa [ints] using ho, h0.below b0 hg (Nat.le_refl _) b0.size⟩
/-- the law's own word: the same texts? -/
theorem same_any (W : World) (A B : Option Addr) (n c m d : Nat) (l q : List ByteArray) (b : Bool) (hn : n = l.length) (hm : m = q.length) (hr : Row W W.heap.size A (strs l)) (hq : Row W W.heap.size B (strs q)) (hl : l.length ≤ 100000) (hb : b = true ↔ l = q) :
    Calls Try.prog 22 #[.slice A n c, .slice B m d] W fun e w' => e = .returned (.bool b) ∧ Below W.heap.size W w' := by
  subst hn hm
  have HR := Lib.hid hr
  have HQ := Lib.hid hq
  have HB := Lib.hid hb
  clear hr hq hb
  by_cases hlen : l.length = q.length
  · have HLN := Lib.hid hlen
    have e1 : ((l.length : Int) != (q.length : Int)) = false := by simp [hlen]
    clear hlen
    go_enter Try.func22, Try.ntmps22
    go_wp2_with fail
    clear e1
    go_loopw [5] (fun i wr => ∃ k : Nat, k ≤ l.length ∧ i = .int .i64 k ∧ l.take k = q.take k ∧ Below W.heap.size W wr) (fun i _ => l.length - (intOf i).toNat)
    case atStart => exact ⟨0, by omega, rfl, rfl, Below.refl _ _⟩
    case round =>
      obtain ⟨k, hk, rfl, hpre, hbw⟩ := hrel
      have HP := Lib.hid hpre
      clear hpre
      by_cases hlt : k < l.length
      · have hlt2 : k < q.length := by have := HLN.out; omega
        have hqi : ((k : Int) < (q.length : Int)) = True := by simp; omega
        obtain ⟨ad, hA, hblk, hc1⟩ := FreePages.strs_get HR.out k hlt
        obtain ⟨bd, hB, hblk2, hd1⟩ := FreePages.strs_get HQ.out k hlt2
        subst hA hB
        have cc1 := (hbw.cell (p := ad.add k) (by rw [blk_add]; exact hblk)).trans hc1
        have dd1 := (hbw.cell (p := bd.add k) (by rw [blk_add]; exact hblk2)).trans hd1
        clear hc1 hd1
        have HT := Lib.hid (show l.take (k + 1) = q.take (k + 1) ↔ l[k] = q[k] by
          rw [List.take_succ_eq_append_getElem hlt, List.take_succ_eq_append_getElem hlt2, HP.out, List.append_cancel_left_eq]
          simp only [List.cons.injEq, and_true])
        by_cases he : l[k] = q[k]
        · have HE := Lib.hid (HT.out.2 he)
          rw [he] at cc1
          clear HT he
          generalize q[k] = s1 at *
          go_wp2_with fail
          go_quiet (fail)
          go_wp2_with fail
          go_roundw
          case rel => exact ⟨k + 1, by omega, by go_num, HE.out, hbw.trans (Base.below_drewN _ _ _)⟩
          case measure => simp [intOf]; omega
        · have HE := Lib.hid (show b = false from Bool.eq_false_iff.2 fun h => he (by have := HB.out.1 h; subst this; rfl))
          clear HT
          generalize q[k] = s1 at *
          generalize l[k] = s2 at *
          have hd : (s2.toList == s1.toList) = false := by rw [Str.ba_beq]; simpa using he
          clear he
          go_wp2_with fail
          go_quiet (fail)
          go_wp2_with fail
          go_ret
          exact ⟨ret_bool HE.out.symm, hbw.trans (Base.below_drewN _ _ _)⟩
      · have HE := Lib.hid (show b = true from HB.out.2 (by
          have := HP.out
          rwa [List.take_of_length_le (by omega), List.take_of_length_le (by have := HLN.out; omega)] at this))
        go_wp2_with fail
        go_ret
        exact ⟨ret_bool HE.out.symm, hbw⟩
  · have HE := Lib.hid (show b = false from Bool.eq_false_iff.2 fun h => hlen (by rw [HB.out.1 h]))
    have e1 : ((l.length : Int) != (q.length : Int)) = true := by simp; omega
    clear hlen
    go_enter Try.func22, Try.ntmps22
    go_wp2_with fail
    go_ret
    exact ⟨ret_bool HE.out.symm, Below.refl _ _⟩
end Go.Proofs.Ytffbmabhlgfjkaa.FreeLaw
