/- The walk of NodeRooms. -/
import Derived.Test.YtpcpfcllgadghaaNodePlumb
namespace Go.Proofs.Ytpcpfcllgadghaa.NodeRooms
open Go.RowKit Base NodePlain NodeRead NodeSlice NodeCheck NodeBox NodeEnt NodeCells NodeRd NodeAwake NodePlumb

theorem ent_size (k b : ByteArray) : (ent k b).size = 1 + k.size + b.size := by
  have : (ent k b).data.toList.length = (ent k b).size := rfl
  rw [← this, ent_data, List.length_cons, List.length_append]
  have a1 : k.data.toList.length = k.size := rfl
  have a2 : b.data.toList.length = b.size := rfl
  omega
theorem tot_ents : ∀ (ks bs : List ByteArray), ks.length = bs.length → tot (ents ks bs) = ks.length + tot ks + tot bs
  | [], [], _ => rfl
  | k :: ks, b :: bs, h => by
    have := tot_ents ks bs (by simpa using h)
    simp only [ents, List.zipWith_cons_cons, tot, ent_size, List.length_cons] at this ⊢
    omega
  | [], _ :: _, h => by simp at h
  | _ :: _, [], h => by simp at h
theorem tot_four : ∀ (l : List ByteArray), (∀ q ∈ l, q.size = 4) → tot l = 4 * l.length
  | [], _ => rfl
  | q :: l, h => by
    have h1 := h q (by simp)
    have h2 := tot_four l fun x hx => h x (by simp [hx])
    simp only [tot, List.length_cons]
    omega
theorem room_cells {n : Nd} (h : Ok n) : room n = 2 * (cells n).length + tot (cells n) := by
  have hf := h.2.1
  cases e : n.leaf with
  | true =>
    rw [e] at hf
    simp only [if_true] at hf
    have hc : cells n = ents n.keys n.vals := by rw [cells, e]; rfl
    rw [hc, tot_ents _ _ hf.1.symm, room, e, hf.2]
    simp [ents, hf.1]
    omega
  | false =>
    rw [e] at hf
    simp only [Bool.false_eq_true, if_false] at hf
    have hc : cells n = (texts n).take 1 ++ ents n.keys ((texts n).drop 1) := by rw [cells, e]; rfl
    have hl : (texts n).length = n.keys.length + 1 := by rw [texts, List.length_map]; exact hf.1
    have h4 : ∀ q ∈ texts n, q.size = 4 := fun q hq => by
      obtain ⟨k, _, rfl⟩ := List.mem_map.1 hq
      rfl
    have hd : ((texts n).drop 1).length = n.keys.length := by rw [List.length_drop]; omega
    rw [hc, tot_append, tot_four _ (fun q hq => h4 q (List.mem_of_mem_take hq)), tot_ents _ _ hd.symm, tot_four _ (fun q hq => h4 q (List.mem_of_mem_drop hq)), hd, room, e, hf.2, List.length_append, List.length_take, hl, hf.1]
    simp [ents, tot]
    omega
/-- what a law's walk over a node starts from -/
def Begun (W : World) (n : Nd) (h : Hd) (w' : World) : Prop := Bx w' W.heap.size n h ∧ Lay w' n h ∧ Below W.heap.size W w'
theorem begunL {W : World} {n : Nd} {h : Hd} (hL : Lay W n h) : ∀ w', Below (box W n h).heap.size (box W n h) w' → Begun W n h w' := fun _ hb =>
  ⟨(bx_new W n h).below hb, (hL.below (box_below W n h)).below hb, Below.step (box_below W n h) hb⟩
theorem Begun.below {W w w' : World} {n : Nd} {h : Hd} (s : Begun W n h w) (hb : Below w.heap.size w w') : Begun W n h w' := ⟨s.1.below hb, s.2.1.below hb, bstep s.2.2 s.2.2.size hb⟩
set_option maxRecDepth 100000 in
set_option maxHeartbeats 3200000 in
theorem NodeRooms_walk (n : Nd) (h : Hd) (W : World) (hL : Lay W n h) (hk : n.keys.length ≤ maxLen) (hv : n.vals.length ≤ maxLen) :
    Calls Try.prog 10 #[nv n h] W (Law W) := by
  obtain ⟨fb, hfb⟩ := pick_b (Few n)
  have HS := Lib.hid (begunL hL)
  have HFW := Lib.hid (fun w' (s : Begun W n h w') => NodeRoom.few_any w' n h s.2.1 hk hv fb hfb)
  clear hk hv hL
  go_enter Try.func10, Try.ntmps10
  go_wp2_with fail
  refine (awake_any _).mono ?_
  rintro e w1 ⟨rfl, b1⟩
  have s1 := HS.out w1 b1
  clear HS b1
  obtain ⟨c0, c1, c2, c3, _⟩ := s1.1
  go_wp2_with fail
  refine (HFW.out w1 s1).mono ?_
  rintro e w2 ⟨rfl, b2⟩
  have s2 := s1.below b2
  clear s1 b2 HFW c0 c1 c2 c3
  cases fb with
  | false =>
    clear hfb
    go_wp2_with fail
    refine (awake_any w2).mono ?_
    rintro e w3 ⟨rfl, b3⟩
    have s3 := s2.below b3
    go_wp2_with fail
    go_ret
    exact ⟨rfl, s3.2.2⟩
  | true =>
    have hsm : Small n := (hfb.1 rfl).small
    have hfew := hfb.1 rfl
    obtain ⟨er, her⟩ := NodeOf3.chk_any n
    have HER := Lib.hid her
    have hce := cells_any w2 n h s2.2.1 hsm er her
    have HRA := Lib.hid (fun w' (s : Begun W n h w') => NodeRoom.room_any w' n h s.2.1 hsm)
    have hbig : tot n.keys ≤ 30000 ∧ tot n.vals ≤ 30000 := by
      have h1 := tot_le n.keys 300 hfew.2.2.2.1
      have h2 := tot_le n.vals 300 hfew.2.2.2.2
      have := hfew.1
      have := hfew.2.1
      omega
    have HBIG := Lib.hid (show room n ≤ 100000 by unfold room; have := hfew.1; have := hfew.2.2.1; split <;> omega)
    have HOKK := Lib.hid (fun (e : er = 0) => room_cells ((chk_ok her).1 e))
    clear hsm her hfb hfew hbig
    obtain ⟨c0, c1, c2, c3, _⟩ := s2.1
    go_wp2_with fail
    refine hce.mono ?_
    rintro e w3 ⟨b3', hcase⟩
    have b3 : Below w2.heap.size w2 w3 := b3'
    have s3 := s2.below b3
    clear hce b3' b3 s2 c0 c1 c2 c3
    rcases hcase with ⟨h0, rfl⟩ | ⟨h0, A, m, c, rfl, hA⟩
    · have he2 : (er != 0) = true := by simpa using h0
      clear h0
      go_wp2_with fail
      go_ret
      exact ⟨rfl, s3.2.2⟩
    · have HRC := Lib.hid (HOKK.out h0)
      subst h0
      obtain ⟨A', m', c', e1, e2, e3, hr, _⟩ := hA
      injection e1 with e1 e4 e5
      subst e1 e4 e5
      rw [strs_len] at e2
      subst e2
      have hlen : (cells n).length ≤ 100000 := by have := HRC.out; have := HBIG.out; omega
      have HTK := Lib.hid (fun k hk => tot_take (cells n) k hk)
      have HSK := Lib.hid (show ∀ k, tot ((cells n).take k) ≤ 100000 from fun k => by
        have := tot_append ((cells n).take k) ((cells n).drop k); rw [List.take_append_drop] at this
        have := HRC.out; have := HBIG.out; omega)
      clear e3 HOKK
      go_wp2_with fail
      go_loop [5, 6] (fun v i => ∃ k : Nat, k ≤ (cells n).length ∧ i = .int .i64 k ∧ v = .int .i64 ((2 * (cells n).length + tot ((cells n).take k) : Nat) : Int)) (fun _ i => (cells n).length - (intOf i).toNat)
      case atStart => exact ⟨0, by omega, rfl, by simp [tot]⟩
      case round =>
        obtain ⟨k, hk, rfl, rfl⟩ := hrel
        by_cases hlt : k < (cells n).length
        · have HT := Lib.hid (HTK.out k hlt)
          have h1 := HSK.out (k + 1)
          rw [HT.out] at h1
          obtain ⟨ad, rfl, hb, hc⟩ := strs_get hr k hlt
          generalize (cells n)[k] = q at *
          generalize tot ((cells n).take k) = t at *
          go_wp2_with fail
          go_round
          case rel => exact ⟨k + 1, by omega, by go_num, by rw [HT.out]; go_num⟩
          case measure => simp [intOf]; omega
        · obtain rfl : k = (cells n).length := by omega
          rw [List.take_of_length_le (Nat.le_refl _)]
          have hra := HRA.out w3 s3
          obtain ⟨c0, c1, c2, c3, _⟩ := s3.1
          have heq : (((room n : Nat) : Int) == 2 * (((cells n).length : Nat) : Int) + ((tot (cells n) : Nat) : Int)) = true := by have := HRC.out; simp; omega
          go_wp2_with fail
          refine hra.mono ?_
          rintro e w4 ⟨rfl, b4⟩
          have s4 := s3.below b4
          clear c0 c1 c2 c3 s3 b4 hra
          go_wp2_with fail
          go_ret
          exact ⟨rfl, s4.2.2⟩
end Go.Proofs.Ytpcpfcllgadghaa.NodeRooms
