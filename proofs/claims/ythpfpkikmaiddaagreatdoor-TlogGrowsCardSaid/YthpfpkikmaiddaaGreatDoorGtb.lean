/- Walks of tlog's bytes: fits, leavesBytes, usedBytes, readUsed, readLeaves. | Walk of tlog.readLeaves. -/
import Derived.Test.YthpfpkikmaiddaaGreatDoorGto
set_option linter.all false
set_option linter.unusedVariables false
set_option linter.unusedSimpArgs false
namespace Go.Proofs.YthpfpkikmaiddaaGreatDoor.Tg
open Go Go.RowKit Go.Proofs.YthpfpkikmaiddaaGreatDoor.Pk Go.Proofs.YthpfpkikmaiddaaGreatDoor.Nt

theorem lvB_le (l : List ByteArray) (h : ∀ x ∈ l, x.size ≤ 1048576) : (lvB l).length ≤ 1048578 * l.length := by
  induction l with
  | nil => simp [lvB]
  | cons x r ih =>
    have e : lvB (x :: r) = txL x.data.toList ++ lvB r := rfl
    have h1 := h x List.mem_cons_self
    have h2 := ih fun y hy => h y (List.mem_cons_of_mem _ hy)
    rw [e, List.length_append, txL_length, Pk.data_len, List.length_cons]; omega
theorem lvB_takes (l : List ByteArray) (i : Nat) (h : i < l.length) : (lvB (l.take (i + 1))).length = (lvB (l.take i)).length + (2 + (l.getD i ByteArray.empty).size) := by
  rw [lvB_take l i h, List.length_append, textL_len]
set_option maxHeartbeats 1600000 in
theorem fits_any (l : List ByteArray) (a : Option Addr) (n c : Nat) (w : World) (hP : PA w a n c l) (hl : ∀ x ∈ l, x.size ≤ 1048576) (hn : n ≤ 1000000) :
    Calls Tryz.prog 40 #[.slice a n c] w fun e w' => e = .returned (.bool (decide (n ≤ 1024 ∧ (lvB l).length ≤ 65535))) ∧ w = w' := by
  have hT := lvB_le l hl
  have hlen := hP.len
  obtain ⟨N, hN⟩ : ∃ N, (lvB l).length = N := ⟨_, rfl⟩
  rw [hN] at hT ⊢
  have hNB := Box.mk hN
  have hcap : n ≤ c := hP.cap
  have htop : c ≤ 9223372036854775807 := hP.top
  replace hP := Box.mk hP
  replace hl := Box.mk hl
  replace hlen := Box.mk hlen
  have hT2 : N ≤ 1048578000000 := by have := hlen.out; omega
  clear hT hN
  go_enter Tryz.func40, Tryz.ntmps40
  go_wp2_with fail
  go_loopw [3, 5, 8] (fun s3 _ s8 wr => ∃ (i : Nat) (k : Nat), i ≤ n ∧ s3 = .int .i64 (k : Int) ∧ s8 = .int .i64 (i : Int) ∧ Box ((lvB (l.take i)).length = k) ∧ k ≤ N ∧ wr = w) (fun _ _ s8 _ => n - (intOf s8).toNat)
  case atStart => exact ⟨0, 0, by omega, rfl, rfl, ⟨rfl⟩, by omega, rfl⟩
  case round =>
    obtain ⟨i, k, hi, rfl, rfl, hk, hkN, rfl⟩ := hrel
    by_cases hlt : i < n
    · obtain ⟨blk, off, rfl, hbl, hcell⟩ := hP.out.at_ (by omega)
      have hc := hcell i hlt
      have hsz : (l.getD i ByteArray.empty).size ≤ 1048576 := hl.out _ (by
        rw [List.getD_eq_getElem?_getD, List.getElem?_eq_getElem (by rw [hlen.out]; exact hlt)]; exact List.getElem_mem _)
      have hst := lvB_takes l i (by rw [hlen.out]; exact hlt)
      have hle := lvB_take_le l (i + 1)
      rw [hNB.out] at hle
      obtain ⟨x, hx⟩ : ∃ x, l.getD i ByteArray.empty = x := ⟨_, rfl⟩
      rw [hx] at hc hsz hst
      rw [hk.out] at hst
      replace hst := Box.mk hst
      replace hle : k + (2 + x.size) ≤ N := by have := hst.out; omega
      clear hcell
      go_wp2_with fail
      exact ⟨⟨i + 1, k + (2 + x.size), by omega, by go_num, by go_num, ⟨hst.out⟩, hle, by first | rfl | trivial⟩, by simp [intOf]; omega⟩
    · obtain rfl : i = n := by omega
      have hkk : k = N := by
        rw [← hk.out, ← hNB.out, List.take_of_length_le (by rw [hlen.out]; exact Nat.le_refl _)]
      subst hkk
      by_cases h1 : i ≤ 1024
      · have h1i : (i : Int) ≤ 1024 := by omega
        go_wp2_with fail
        go_ret
        exact ⟨ret_b (by rw [decide_eq_decide]; omega), rfl⟩
      · have h1i : ¬ (i : Int) ≤ 1024 := by omega
        go_wp2_with fail
        go_ret
        exact ⟨ret_b (by simp [h1]), rfl⟩

/-! ### Writers -/
/-- A writer that is all new since w0. -/
structure WrN (w0 w : World) (b : Nat) (l : Bs) : Prop where
  at_ : ∃ v, WAt w b 164 v l false ∧ ∀ k, v.ownBlock = some k → w0.heap.size ≤ k
  bb : w0.heap.size ≤ b
  bel : Below w0.heap.size w0 w
theorem WrN.start (w : World) : WrN w (w.alloc (.cells #[.slice none 0 0, .bool false] 164)) w.heap.size [] :=
  ⟨⟨.slice none 0 0, ⟨Pk.Blk.new w [.slice none 0 0, .bool false] _, Pk.Own.nil _⟩, fun k hk => by cases hk⟩, Nat.le_refl _, bel_alloc w _⟩
theorem WrN.next {w0 w w' : World} {b : Nat} {l l' : Bs} {v : Value} (h : WrN w0 w b l) (hv : WAt w b 164 v l false ∧ ∀ k, v.ownBlock = some k → w0.heap.size ≤ k) (hN : WNext w b 164 v l' false w') : WrN w0 w' b l' := by
  obtain ⟨v', h1, h2, h3⟩ := hN.out
  have hb := h.bb
  refine ⟨⟨v', h1, fun k hk => ?_⟩, hb, h.bel.trans (h2.below h.bel.size fun k hk => ?_)⟩
  · rcases h3 k hk with h4 | h4
    · exact hv.2 k h4
    · exact Nat.le_trans h.bel.size h4
  · rcases hk with hk | hk
    · omega
    · exact hv.2 k hk
theorem wr_text {w0 w : World} {b : Nat} {l : Bs} (h : WrN w0 w b l) (s : ByteArray) (hs : s.size ≤ 65535) (hlen : l.length ≤ 35184372088000) :
    Calls Tryz.prog 90 #[.pointer (some ⟨b, 0, none⟩), .string s] w fun e w' => e = .returned (.tuple #[]) ∧ WrN w0 w' b (l ++ Pk.textL s) := by
  obtain ⟨v, hv⟩ := h.at_
  refine (Pk.text_any b v l false s w hv.1 hlen).mono ?_
  rintro e w' ⟨rfl, hN⟩
  have e1 : Pk.lays (decide (s.size ≤ 65535)) (Pk.textL s) l false = l ++ Pk.textL s := by unfold Pk.lays; rw [decide_eq_true hs]; rfl
  have e2 : (false || !decide (s.size ≤ 65535)) = false := by rw [decide_eq_true hs]; rfl
  rw [e1, e2] at hN
  exact ⟨rfl, h.next hv hN⟩
theorem wr_four {w0 w : World} {b : Nat} {l : Bs} (h : WrN w0 w b l) (n : Nat) (hn : n < 4294967296) (hlen : l.length ≤ 35184372088000) :
    Calls Tryz.prog 94 #[.pointer (some ⟨b, 0, none⟩), .int .i64 (n : Int)] w fun e w' => e = .returned (.tuple #[]) ∧ WrN w0 w' b (l ++ Pk.beN n 4) := by
  obtain ⟨v, hv⟩ := h.at_
  refine (Pk.four_any b v l false n w hv.1 (by omega)).mono ?_
  rintro e w' ⟨rfl, hN⟩
  have hf : Pk.fits (n : Int) 4 = true := by
    unfold Pk.fits
    have : (2 : Nat) ^ (8 * 4) = 4294967296 := by decide
    simp; omega
  have e1 : Pk.lays (Pk.fits (n : Int) 4) (Pk.beN (n : Int).toNat 4) l false = l ++ Pk.beN n 4 := by unfold Pk.lays; rw [hf]; rfl
  have e2 : (false || !Pk.fits (n : Int) 4) = false := by rw [hf]; rfl
  rw [e1, e2] at hN
  exact ⟨rfl, h.next hv hN⟩
theorem wr_bytes {w0 w : World} {b : Nat} {l : Bs} (h : WrN w0 w b l) :
    Calls Tryz.prog 91 #[.pointer (some ⟨b, 0, none⟩)] w fun e w' => e = .returned (.tuple #[.string (btx l), .int .i64 0]) ∧ Below w0.heap.size w0 w' := by
  obtain ⟨v, hv⟩ := h.at_
  refine (Pk.bytes_any b v l false w hv.1).mono ?_
  rintro e w' ⟨rfl, rfl⟩
  exact ⟨rfl, h.bel⟩
set_option maxHeartbeats 1600000 in
theorem leavesBytes_any (l : List ByteArray) (a : Option Addr) (n c : Nat) (w : World) (hP : PA w a n c l) (hl : ∀ x ∈ l, x.size ≤ 1024) (hn : n ≤ 1000000) :
    Calls Tryz.prog 43 #[.slice a n c] w fun e w' => e = .returned (.string (btx (lvB l))) ∧ Below w.heap.size w w' := by
  have hT := lvB_le l fun x hx => Nat.le_trans (hl x hx) (by omega)
  have hlen := hP.len
  have hcap : n ≤ c := hP.cap
  have htop : c ≤ 9223372036854775807 := hP.top
  have hW0 := Box.mk (WrN.start w)
  obtain ⟨b, hb⟩ : ∃ b, w.heap.size = b := ⟨_, rfl⟩
  rw [hb] at hW0
  have hT2 : Box ((lvB l).length ≤ 1048578000000) := ⟨by omega⟩
  replace hP := Box.mk hP
  replace hl := Box.mk hl
  replace hlen := Box.mk hlen
  clear hT
  replace hb := Box.mk hb
  go_enter Tryz.func43, Tryz.ntmps43
  go_wp2_with fail
  rw [hb.out]
  go_loopw [5, 10] (fun _ s10 wr => ∃ (i : Nat), i ≤ n ∧ s10 = .int .i64 (i : Int) ∧ Box (WrN w wr b (lvB (l.take i)))) (fun _ s10 _ => n - (intOf s10).toNat)
  case atStart => exact ⟨0, by omega, rfl, hW0⟩
  case round =>
    clear hW0
    obtain ⟨i, hi, rfl, hW⟩ := hrel
    by_cases hlt : i < n
    · obtain ⟨blk, off, rfl, hbl, hcell⟩ := hP.out.at_ (by omega)
      have hc := (hW.out.bel.cell (p := ⟨blk, off + i, none⟩) hbl).trans (hcell i hlt)
      have hsz : (l.getD i ByteArray.empty).size ≤ 1024 := hl.out _ (by
        rw [List.getD_eq_getElem?_getD, List.getElem?_eq_getElem (by rw [hlen.out]; exact hlt)]; exact List.getElem_mem _)
      have hst := lvB_take l i (by rw [hlen.out]; exact hlt)
      obtain ⟨x, hx⟩ : ∃ x, l.getD i ByteArray.empty = x := ⟨_, rfl⟩
      rw [hx] at hc hsz hst
      have hF := wr_text hW.out x (by omega) (by have := lvB_take_le l i; have := hT2.out; omega)
      rw [← hst] at hF
      clear hcell hst hsz
      go_wp2_with fail
      refine hF.mono ?_
      clear hF
      rintro e w2 ⟨rfl, hW2⟩
      replace hW2 := Box.mk hW2
      go_wp2_with fail
      exact ⟨⟨i + 1, by omega, by go_num, hW2⟩, by simp [intOf]; omega⟩
    · obtain rfl : i = n := by omega
      have he : l.take i = l := List.take_of_length_le (by rw [hlen.out]; exact Nat.le_refl _)
      rw [he] at hW
      have hF := wr_bytes hW.out
      clear hW
      go_wp2_with fail
      refine hF.mono ?_
      clear hF
      rintro e w2 ⟨rfl, hB⟩
      replace hB := Box.mk hB
      go_wp2_with fail
      go_ret
      exact ⟨rfl, hb.out ▸ hB.out⟩
set_option maxHeartbeats 800000 in
theorem usedBytes_any (n : Nat) (w : World) (hn : n < 4294967296) :
    Calls Tryz.prog 46 #[.int .i64 (n : Int)] w fun e w' => e = .returned (.string (btx (usB n))) ∧ Below w.heap.size w w' := by
  have hW0 := wr_four (WrN.start w) n hn (by simp)
  replace hW0 := Box.mk hW0
  clear hn
  go_enter Tryz.func46, Tryz.ntmps46
  go_wp2_with fail
  refine hW0.out.mono ?_
  clear hW0
  rintro e w2 ⟨rfl, hW2⟩
  have hF := wr_bytes hW2
  clear hW2
  go_wp2_with fail
  refine hF.mono ?_
  clear hF
  rintro e w3 ⟨rfl, hB⟩
  replace hB := Box.mk hB
  go_wp2_with fail
  go_ret
  exact ⟨rfl, hB.out⟩

/-! ### Readers -/
theorem rd_bel {w0 w w' : World} {b : Nat} {l : Bs} {e : Int} (hb : Below w0.heap.size w0 w) (hbb : w0.heap.size ≤ b) (hN : RNext w b 261 l e w') : Below w0.heap.size w0 w' :=
  hb.trans (hN.chg.below hb.size fun k hk => hk ▸ hbb)
set_option maxHeartbeats 800000 in
theorem readUsed_any (s : ByteArray) (w : World) :
    Calls Tryz.prog 83 #[.string s] w fun e w' => e = .returned (.tuple #[.int .i64 (numR 4 s.data.toList 0).1, .bool (decide (endE (numR 4 s.data.toList 0).2.1 (numR 4 s.data.toList 0).2.2 = 0))]) ∧ Below w.heap.size w w' := by
  have h0 := Box.mk (read_one s w)
  obtain ⟨b, hb⟩ : ∃ b, w.heap.size = b := ⟨_, rfl⟩
  have h4 : Box (∀ w1, RAt w1 b 261 s.data.toList 0 → _) := ⟨fun w1 hr => rfour_any b s.data.toList 0 w1 hr⟩
  obtain ⟨n, hn⟩ : ∃ n, (numR 4 s.data.toList 0).1 = n := ⟨_, rfl⟩
  obtain ⟨l2, hl2⟩ : ∃ n, (numR 4 s.data.toList 0).2.1 = n := ⟨_, rfl⟩
  obtain ⟨e2, he2⟩ : ∃ n, (numR 4 s.data.toList 0).2.2 = n := ⟨_, rfl⟩
  rw [hn, hl2, he2] at h4 ⊢
  obtain ⟨E, hE⟩ : ∃ E, endE l2 e2 = E := ⟨_, rfl⟩
  have h5 : Box (∀ w1, RAt w1 b 261 l2 e2 → _) := ⟨fun w1 hr => end_any b l2 e2 w1 hr⟩
  rw [hE] at h5 ⊢
  replace hb := Box.mk hb
  clear hn hl2 he2 hE
  go_enter Tryz.func83, Tryz.ntmps83
  go_wp2_with fail
  refine h0.out.mono ?_
  clear h0
  rintro e w1 ⟨rfl, hr1, hb1⟩
  rw [hb.out] at hr1 ⊢
  have hF := h4.out w1 hr1
  replace hb1 := Box.mk hb1
  clear hr1 h4
  go_wp2_with fail
  refine hF.mono ?_
  clear hF
  rintro e w3 ⟨rfl, hN⟩
  have hB3 := Box.mk (rd_bel hb1.out (Nat.le_of_eq hb.out) hN)
  have hF := h5.out w3 hN.at_
  clear hb1 hN h5
  go_wp2_with fail
  refine hF.mono ?_
  clear hF
  rintro e w4 ⟨rfl, hN⟩
  have hB4 := Box.mk (rd_bel hB3.out (Nat.le_of_eq hb.out) hN)
  clear hN hB3
  go_wp2_with fail
  go_returns
  exact ⟨by congr 3, hB4.out⟩
end Go.Proofs.YthpfpkikmaiddaaGreatDoor.Tg

namespace Go.Proofs.YthpfpkikmaiddaaGreatDoor.Tg
open Go Go.RowKit Go.Proofs.YthpfpkikmaiddaaGreatDoor.Pk Go.Proofs.YthpfpkikmaiddaaGreatDoor.Nt

structure RlAt (S : Bs) (w : World) (b : Nat) (l : Bs) (e : Int) (out : List ByteArray) (v : Value) (wr : World) : Prop where
  rd : RAt wr b 261 l e
  row : TxR w.heap.size wr v out
  sp : SpAt S l e out
  bel : Below w.heap.size w wr
  bb : w.heap.size ≤ b
/-- What readLeaves answers. -/
def RlI (w : World) (S : Bs) (e : Ending) (w' : World) : Prop := ∃ v, e = .returned (.tuple #[v, .bool (decide ((spR S).2 = 0 ∧ (spR S).1.length ≤ 1024))]) ∧ TxR w.heap.size w' v (spR S).1 ∧ Below w.heap.size w w'
theorem RlI.of {w wr : World} {S : Bs} {e : Int} {out : List ByteArray} {v : Value} {y : Bool} (hd : spR S = (out, e)) (hR : TxR w.heap.size wr v out) (hB : Below w.heap.size w wr) (hy : decide (e = 0 ∧ out.length ≤ 1024) = y) : RlI w S (.returned (.tuple #[v, .bool y])) wr := by
  refine ⟨v, ?_, ?_, hB⟩
  · rw [hd, ← hy]
  · rw [hd]; exact hR
set_option maxHeartbeats 3200000 in
set_option maxRecDepth 100000 in
theorem readLeaves_any (s : ByteArray) (w : World) (hs : s.size ≤ 1000000) :
    Calls Tryz.prog 82 #[.string s] w (RlI w s.data.toList) := by
  have h0 := Box.mk (read_one s w)
  have hSl : s.data.toList.length ≤ 1000000 := by rw [Pk.data_len]; exact hs
  obtain ⟨S, hS⟩ : ∃ S, s.data.toList = S := ⟨_, rfl⟩
  rw [hS] at h0 hSl ⊢
  obtain ⟨b, hb⟩ : ∃ b, w.heap.size = b := ⟨_, rfl⟩
  replace hb := Box.mk hb
  clear hS hs
  go_enter Tryz.func82, Tryz.ntmps82
  go_wp2_with fail
  refine h0.out.mono ?_
  clear h0
  rintro e w1 ⟨rfl, hr1, hb1⟩
  rw [hb.out] at hr1 ⊢
  have hA0 : Box (RlAt S w b S 0 [] (.slice none 0 0) w1) := ⟨⟨hr1, TxR.nil _ _, SpAt.start S, hb1, Nat.le_of_eq hb.out⟩⟩
  clear hr1 hb1
  go_wp2_with fail
  go_loopw [5] (fun s5 wr => ∃ (l : Bs) (e : Int) (out : List ByteArray), Box (RlAt S w b l e out s5 wr)) (fun s5 _ => S.length + 5 - lenV s5)
  case atStart => exact ⟨_, _, _, hA0⟩
  case round =>
    clear hA0
    obtain ⟨l, e, out, hA⟩ := hrel
    obtain ⟨ax, cx, hv⟩ := hA.out.row.shape
    obtain ⟨N, hN⟩ : ∃ N, out.length = N := ⟨_, rfl⟩
    rw [hN] at hv
    subst hv
    have hL := Pk.left_any b l e wr hA.out.rd
    have hE := Pk.err_any b l e wr hA.out.rd
    have hol := hA.out.sp.out_len
    rw [hN] at hol
    by_cases hl : l = []
    · subst hl
      have hd := hA.out.sp.done (fun h => h.1 rfl)
      have hE2 := hE
      have hz : (([] : Bs).length : Int) = 0 := rfl
      rw [hz] at hL
      replace hd := Box.mk hd
      replace hN := Box.mk hN
      go_wp2_with fail
      refine hL.mono ?_
      clear hL
      rintro r w2 ⟨rfl, rfl⟩
      go_wp2_with fail
      refine hE2.mono ?_
      clear hE2 hE
      rintro r w2 ⟨rfl, rfl⟩
      by_cases he : e = 0
      · subst he
        by_cases hk : N ≤ 1024
        · have hki : (N : Int) ≤ 1024 := by omega
          go_wp2_with fail
          go_returns
          exact RlI.of hd.out hA.out.row hA.out.bel (by simp [hN.out, hk] <;> omega)
        · have hki : ¬ (N : Int) ≤ 1024 := by omega
          go_wp2_with fail
          go_returns
          exact RlI.of hd.out hA.out.row hA.out.bel (by simp [hN.out, hk] <;> omega)
      · have heb : (e == 0) = false := by simpa using he
        go_wp2_with fail
        go_returns
        exact RlI.of hd.out hA.out.row hA.out.bel (by simp [he])
    · have hlp : 0 < l.length := List.length_pos_iff.2 hl
      have hlpi : (l.length : Int) > 0 := by omega
      by_cases he : e = 0
      · subst he
        have hT := rtext_any b l 0 1024 wr hA.out.rd
        have hsp := hA.out.sp.next hl
        obtain ⟨x, hx⟩ : ∃ x, btx (textR 1024 l 0).1 = x := ⟨_, rfl⟩
        obtain ⟨l2, hl2⟩ : ∃ x, (textR 1024 l 0).2.1 = x := ⟨_, rfl⟩
        obtain ⟨e2, he2⟩ : ∃ x, (textR 1024 l 0).2.2 = x := ⟨_, rfl⟩
        rw [hx, hl2, he2] at hsp
        rw [hx, hl2, he2] at hT
        have hlim : Box ((out.length + 1) * 16 ≤ 140737488355328) := ⟨by rw [hN]; omega⟩
        replace hsp := Box.mk hsp
        replace hN := Box.mk hN
        obtain ⟨n, hn⟩ : ∃ n, l.length = n := ⟨_, rfl⟩
        rw [hn] at hL hlpi
        clear hx hl2 he2 hl hlp hn
        go_wp2_with fail
        refine hL.mono ?_
        clear hL
        rintro r w2 ⟨rfl, rfl⟩
        go_wp2_with fail
        refine hE.mono ?_
        clear hE
        rintro r w2 ⟨rfl, rfl⟩
        go_wp2_with fail
        refine hT.mono ?_
        clear hT
        rintro r w3 ⟨rfl, hN3⟩
        have hA3 : Box (RlAt S w b l2 e2 (out ++ [x]) (.slice none 0 0) w3 ∨ True) := ⟨.inr trivial⟩
        have hR3 : TxR w.heap.size w3 (.slice ax N cx) out := hA.out.row.chg hN3.chg (fun k hk e => txr_apart (TxR.base hA.out.row (Nat.zero_le _)) hA.out.rd (by decide) (by rw [hk]; exact congrArg some e))
        have hB3 := rd_bel hA.out.bel hA.out.bb hN3
        have hz := Box.mk (parts_new w3 [x] 9)
        have hb4 := bel_alloc w3 (.cells #[.string x] 9)
        have hR4 := Box.mk (hR3.here hb4)
        have hB4 := Box.mk (mono_bel hB3 hb4 (Nat.le_refl _))
        have hK4 : Box (RAt (w3.alloc (.cells #[.string x] 9)) b 261 l2 e2) := ⟨(hb4.block _ hN3.at_.lt).trans hN3.at_⟩
        have hs4 : Box (w.heap.size ≤ (w3.alloc (.cells #[.string x] 9)).heap.size) := ⟨hB4.out.size⟩
        have hbb := Box.mk hA.out.bb
        clear hA3 hN3 hR3 hB3 hb4 hA
        go_wp2_with (refine wpList_pushT rfl (.tmp 16) (.tmp 19) rfl w.heap.size _ _ [x] rfl hR4.out hs4.out (some ⟨w3.heap.size, 0, none⟩) 1 1 rfl rfl hz.out hlim.out ?_; intro vo w5 hpush; obtain ⟨av, N2, cv, rfl⟩ : ∃ av N2 cv, vo = Value.slice av N2 cv := (by obtain ⟨av, cv, h⟩ := hpush.row.shape; exact ⟨_, _, _, h⟩))
        have hN2 : N2 = N + 1 := by
          obtain ⟨av', cv', h⟩ := hpush.row.shape
          cases h
          rw [List.length_append, hN.out]; rfl
        have hAf : RlAt S w b l2 e2 (out ++ [x]) (.slice av N2 cv) w5 :=
          ⟨hpush.chg.blk hK4.out (txr_apart (TxR.base hR4.out (Nat.zero_le _)) hK4.out (by decide)), hpush.row, hsp.out, hB4.out.trans ((hpush.below hR4.out).below hs4.out fun _ h => h), hbb.out⟩
        exact ⟨⟨l2, e2, out ++ [x], ⟨hAf⟩⟩, by simp [lenV, hN2]; omega⟩
      · have heb : (e == 0) = false := by simpa using he
        have hd := hA.out.sp.done (fun h => he h.2)
        replace hd := Box.mk hd
        replace hN := Box.mk hN
        obtain ⟨n, hn⟩ : ∃ n, l.length = n := ⟨_, rfl⟩
        rw [hn] at hL hlpi
        clear hl hlp hn
        go_wp2_with fail
        refine hL.mono ?_
        clear hL
        rintro r w2 ⟨rfl, rfl⟩
        go_wp2_with fail
        refine hE.mono ?_
        rintro r w2 ⟨rfl, rfl⟩
        go_wp2_with fail
        refine hE.mono ?_
        clear hE
        rintro r w2 ⟨rfl, rfl⟩
        go_wp2_with fail
        go_returns
        exact RlI.of hd.out hA.out.row hA.out.bel (by simp [he])
end Go.Proofs.YthpfpkikmaiddaaGreatDoor.Tg
