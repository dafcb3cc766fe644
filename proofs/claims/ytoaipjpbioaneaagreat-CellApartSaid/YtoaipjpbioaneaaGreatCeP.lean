/- Walk of a content out of its bytes. -/
import Derived.Test.YtoaipjpbioaneaaGreatCeB
namespace Go.Proofs.YtoaipjpbioaneaaGreat
open Go.RowKit Go.Maps

theorem bless : ∀ (x y : List UInt8), Op.bytesLess x y = decide (x < y)
  | [], [] => by simp [Op.bytesLess]
  | _ :: _, [] => by simp [Op.bytesLess]
  | [], _ :: _ => by simp [Op.bytesLess]
  | a :: x, b :: y => by
    rw [Op.bytesLess, bless x y]
    simp only [List.cons_lt_cons_iff]
    by_cases h1 : a < b <;> by_cases h2 : a = b <;> by_cases h3 : x < y <;> simp [h1, h2, h3]
theorem btx_toList (l : Bs) : (btx l).toList = l := by rw [ByteArray.toList_eq]; rfl
set_option maxHeartbeats 400000 in
theorem read_one (s : ByteArray) (w : World) :
    Calls Tryz.prog 66 #[.string s] w fun e w' => e = .returned (.pointer (some ⟨w.heap.size, 0, none⟩)) ∧ RAt w' w.heap.size 153 s.data.toList 0 ∧ Below w.heap.size w w' := by
  go_enter Tryz.func66, Tryz.ntmps66
  go_wp2
  go_returns
  exact ⟨rfl, Blk.new w [.string s, .int .i64 0] _, (Below.refl _ _).alloc (Nat.le_refl _) _⟩
theorem textR_len (most : Int) (l : Bs) (e : Int) : (textR most l e).1.length ≤ 65535 := by
  unfold textR
  generalize (if most < 0 then (0 : Int) else most) = M
  split
  · simp
  · split
    · simp
    · next h1 h2 =>
      split
      · simp
      · split
        · simp
        · have := numL_lt 2 (l.take 2) (by rw [List.length_take]; omega)
          rw [p256_2] at this
          simp only [List.length_drop, List.length_take]; omega
/-- What parse answers. -/
structure ParseYes (l : Bs) (w : World) (c : Ct) (b : Nat) (w' : World) : Prop where
  is : parseC l = some c
  rise : c.Pairwise (fun p q => p.1 < q.1)
  len : c.length ≤ 64
  at_ : MapAt w' b c
  new : w.heap.size ≤ b
def ParseIs (l : Bs) (w : World) (e : Ending) (w' : World) : Prop :=
  Below w.heap.size w w' ∧ ((∃ c b, e = .returned (.tuple #[.map (some b), .bool true]) ∧ ParseYes l w c b w') ∨ (parseC l = none ∧ ∃ p, e = .returned (.tuple #[p, .bool false])))
/-- Where the loop stands. -/
structure PMid (L : Bs) (w : World) (br bm N i : Nat) (l : Bs) (e : Int) (last : Bs) (acc : Ct) (wr : World) : Prop where
  rd : RAt wr br 153 l e
  mp : MapAt wr bm acc
  k : Below w.heap.size w wr
  go : parseL (N - i) l e last acc = parseC L
  rise : acc.Pairwise (fun p q => p.1 < q.1)
  last : ∀ p ∈ acc, ¬ last < p.1
  len : acc.length = i
  br1 : w.heap.size ≤ br
  bm1 : w.heap.size ≤ bm
  ne : br ≠ bm
theorem PMid.text {L : Bs} {w wr wr' : World} {br bm N i0 : Nat} {l l' : Bs} {e e' : Int} {last : Bs} {acc : Ct} (h : PMid L w br bm N i0 l e last acc wr) (hN : RNext wr br 153 l' e' wr') : MapAt wr' bm acc ∧ Below w.heap.size w wr' ∧ RAt wr' br 153 l' e' :=
  ⟨h.mp.chg hN.chg (fun e => h.ne e.symm), h.k.trans (hN.chg.below h.k.size (fun _ hi => by rw [hi]; exact h.br1)), hN.at_⟩
set_option maxHeartbeats 6400000 in
set_option maxRecDepth 100000 in
theorem parse_any (L : Bs) (w : World) :
    Calls Tryz.prog 70 #[.string (btx L)] w (ParseIs L w) := by
  have h0 := Box.mk (read_one (btx L) w)
  have hmm := @run_makeMap Tryz.prog
  go_enter Tryz.func70, Tryz.ntmps70
  go_wp2_with fail
  refine h0.out.mono ?_
  rintro e w1 ⟨rfl, hr1, hb1⟩
  obtain ⟨br, hbr⟩ : ∃ br, w.heap.size = br := ⟨_, rfl⟩
  rw [hbr] at hr1
  have h2 := Box.mk (rtwo_any br L 0 w1 hr1)
  replace hb1 := Box.mk hb1
  have hbrl : Box (br < w1.heap.size) := ⟨hr1.lt⟩
  clear h0 hr1
  go_wp2_with fail
  refine h2.out.mono ?_
  rintro e w2 ⟨rfl, hN2⟩
  obtain ⟨n, hn⟩ : ∃ n, (numR 2 L 0).1 = n := ⟨_, rfl⟩
  have hn0 := (numR_le 2 L 0).1
  have hnm := (numR_le 2 L 0).2
  rw [hn] at hn0 hnm ⊢
  have hb2 : Box (Below w.heap.size w w2) := ⟨hb1.out.trans (hN2.chg.below hb1.out.size (fun i hi => by rw [hi]; omega))⟩
  have hr2 : Box (RAt w2 br 153 (numR 2 L 0).2.1 (numR 2 L 0).2.2) := ⟨hN2.at_⟩
  have hrl2 : Box (br < w2.heap.size) := ⟨Nat.lt_of_lt_of_le hbrl.out hN2.chg.size⟩
  replace hn := Box.mk hn
  clear h2 hN2 hb1 hbrl
  by_cases h64 : 64 < n
  · have hnone : Box (parseC L = none) := ⟨by unfold parseC; rw [hn.out, if_pos h64]⟩
    clear hr2 hrl2 hn
    go_wp2_with fail
    go_returns
    exact ⟨hb2.out, .inr ⟨hnone.out, _, rfl⟩⟩
  · obtain ⟨N, rfl⟩ : ∃ N : Nat, n = N := ⟨n.toNat, by omega⟩
    have hstart : Box (parseL (N - 0) (numR 2 L 0).2.1 (numR 2 L 0).2.2 [] [] = parseC L) := ⟨by unfold parseC; rw [hn.out, if_neg h64]; simp⟩
    have hN64 : N ≤ 64 := by omega
    have hP0 : Box (PMid L w br w2.heap.size N 0 (numR 2 L 0).2.1 (numR 2 L 0).2.2 [] [] (w2.alloc (.map #[] 0))) := ⟨⟨(Below.heap_alloc _ _ _ hrl2.out).trans hr2.out, MapAt.new w2, hb2.out.alloc hb2.out.size _, hstart.out, List.Pairwise.nil, by simp, rfl, by omega, hb2.out.size, by have := hrl2.out; omega⟩⟩
    clear hr2 hrl2 hn hstart h64 hn0 hnm
    obtain ⟨w3, hw3⟩ : ∃ w3, w2.alloc (.map #[] 0) = w3 := ⟨_, rfl⟩
    obtain ⟨bm, hbm⟩ : ∃ bm, w2.heap.size = bm := ⟨_, rfl⟩
    rw [hw3, hbm] at hP0
    go_wp2_with fail
    go_loopw [7, 18] (fun s7 s18 wr => ∃ (i : Nat) (l : Bs) (e : Int) (last : Bs) (acc : Ct), i ≤ N ∧ s18 = .int .i64 i ∧ s7 = .string (btx last) ∧ Box (PMid L w br bm N i l e last acc wr)) (fun _ s18 _ => N - (intOf s18).toNat)
    case atStart => exact ⟨0, _, _, [], _, by omega, rfl, rfl, hP0⟩
    case round =>
      clear hP0 hw3 hbm hb2
      obtain ⟨i, l, e, last, acc, hi, rfl, rfl, hP⟩ := hrel
      by_cases hlt : i < N
      · have h1 := Box.mk (rtext_any br l e 32 wr hP.out.rd)
        have hgo := Box.mk hP.out.go
        have hnl := textR_len 32 l e
        obtain ⟨nm, hnm⟩ : ∃ nm, (textR 32 l e).1 = nm := ⟨_, rfl⟩
        obtain ⟨l1, hl1⟩ : ∃ l1, (textR 32 l e).2.1 = l1 := ⟨_, rfl⟩
        obtain ⟨e1, he1⟩ : ∃ e1, (textR 32 l e).2.2 = e1 := ⟨_, rfl⟩
        rw [hnm, hl1, he1] at h1
        rw [hnm] at hnl
        go_wp2_with fail
        refine h1.out.mono ?_
        rintro r w4 ⟨rfl, hN1⟩
        obtain ⟨m1, k1, r1⟩ := hP.out.text hN1
        have h2 := Box.mk (rtext_any br l1 e1 65535 w4 r1)
        have htl := textR_len 65535 l1 e1
        obtain ⟨tx, htx⟩ : ∃ tx, (textR 65535 l1 e1).1 = tx := ⟨_, rfl⟩
        obtain ⟨l2, hl2⟩ : ∃ l2, (textR 65535 l1 e1).2.1 = l2 := ⟨_, rfl⟩
        obtain ⟨e2, he2⟩ : ∃ e2, (textR 65535 l1 e1).2.2 = e2 := ⟨_, rfl⟩
        rw [htx, hl2, he2] at h2
        rw [htx] at htl
        have hstep : Box (if last < nm then parseL (N - (i + 1)) l2 e2 nm (acc ++ [(nm, tx)]) = parseC L else parseC L = none) := ⟨by
          have h9 := hgo.out
          rw [show N - i = (N - (i + 1)) + 1 by omega, parseL, hnm, hl1, he1, htx, hl2, he2] at h9
          split
          · next hh => rw [if_neg (by simpa using hh)] at h9; exact h9
          · next hh => rw [if_pos hh] at h9; exact h9.symm⟩
        have hkeep : Box (MapAt w4 bm acc ∧ Below w.heap.size w w4) := ⟨m1, k1⟩
        clear h1 hN1 m1 k1 r1 hgo hnm hl1 he1 htx hl2 he2
        go_wp2_with fail
        refine h2.out.mono ?_
        rintro r w5 ⟨rfl, hN2⟩
        have hM5 : Box (MapAt w5 bm acc) := ⟨hkeep.out.1.chg hN2.chg (fun e => hP.out.ne e.symm)⟩
        have hb5 : Box (Below w.heap.size w w5) := ⟨hkeep.out.2.trans (hN2.chg.below hkeep.out.2.size (fun i hi => hi ▸ hP.out.br1))⟩
        have hr5 : Box (RAt w5 br 153 l2 e2) := ⟨hN2.at_⟩
        clear h2 hN2 hkeep
        by_cases hlast : last < nm
        · have q1 : Op.bytesLess (btx nm).toList (btx last).toList = false := by rw [btx_toList, btx_toList, bless]; simpa using fun h => lt_irrefl_bs _ (lt_trans_bs hlast h)
          have q2 : ((btx nm).toList == (btx last).toList) = false := by rw [btx_toList, btx_toList]; simpa using fun h : nm = last => lt_irrefl_bs last (by rw [h] at hlast; exact hlast)
          have hs1 : Box ((btx nm).size ≤ maxLen) := ⟨by rw [mk_size]; unfold maxLen; omega⟩
          have hs2 : Box ((btx tx).size ≤ maxLen) := ⟨by rw [mk_size]; unfold maxLen; omega⟩
          have hlen : Box (acc.length < 1000000) := ⟨by rw [hP.out.len]; omega⟩
          have hgo2 : Box (parseL (N - (i + 1)) l2 e2 nm (acc ++ [(nm, tx)]) = parseC L) := ⟨by have := hstep.out; rwa [if_pos hlast] at this⟩
          clear hstep
          have hbelow : Box (∀ p ∈ acc, p.1 < nm) := ⟨fun p hp => by
            have h3 := hP.out.last p hp
            by_cases h4 : p.1 = last
            · rw [h4]; exact hlast
            · rcases Decidable.em (p.1 < last) with h5 | h5
              · exact lt_trans_bs h5 hlast
              · exact absurd (lt_total_bs h5 h4) h3⟩
          replace hlast := Box.mk hlast
          clear hnl htl
          go_wp2_with (at_mapUpdate; refine wpList_store rfl _ _ _ rfl bm acc rfl hM5.out hP.out.rise hlen.out (btx nm) (btx tx) rfl rfl hs1.out hs2.out ?_; intro w6 hM6 hC6)
          refine ⟨⟨i + 1, l2, e2, nm, acc ++ [(nm, tx)], by omega, by go_num, rfl, ⟨⟨?_, ?_, ?_, hgo2.out, ?_, ?_, ?_, hP.out.br1, hP.out.bm1, hP.out.ne⟩⟩⟩, by simp [intOf]; omega⟩
          · exact hC6.blk hr5.out hP.out.ne
          · have h3 : putC acc (btx nm).data.toList (btx tx).data.toList = acc ++ [(nm, tx)] := putC_last hbelow.out
            rw [← h3]; exact hM6
          · exact hb5.out.trans (hC6.below hb5.out.size (fun j hj => hj ▸ hP.out.bm1))
          · exact List.pairwise_append.2 ⟨hP.out.rise, by simp, fun p hp q hq => by
              obtain rfl : q = (nm, tx) := by simpa using hq
              exact hbelow.out p hp⟩
          · intro p hp
            rcases List.mem_append.1 hp with h3 | h3
            · exact fun h4 => lt_irrefl_bs _ (lt_trans_bs h4 (hbelow.out p h3))
            · obtain rfl : p = (nm, tx) := by simpa using h3
              exact lt_irrefl_bs _
          · rw [List.length_append, hP.out.len]; rfl
        · have q1 : (Op.bytesLess (btx nm).toList (btx last).toList || (btx nm).toList == (btx last).toList) = true := by
            rw [btx_toList, btx_toList, bless]
            by_cases he : nm = last
            · simp [he]
            · have : nm < last := lt_total_bs hlast (fun e => he e.symm)
              simp [this]
          have hnone : Box (parseC L = none) := ⟨by have := hstep.out; rwa [if_neg hlast] at this⟩
          clear hstep hM5 hr5 hP
          go_wp2_with fail
          go_returns
          exact ⟨hb5.out, .inr ⟨hnone.out, _, rfl⟩⟩
      · obtain rfl : i = N := by omega
        have h1 := Box.mk (end_any br l e wr hP.out.rd)
        have hgo := hP.out.go
        rw [Nat.sub_self, parseL] at hgo
        by_cases hE : endE l e = 0
        · rw [if_pos hE] at hgo
          rw [hE] at h1
          replace hgo := Box.mk hgo
          replace hE := Box.mk hE
          go_wp2_with fail
          refine h1.out.mono ?_
          rintro r w4 ⟨rfl, hN1⟩
          obtain ⟨m1, k1, _⟩ := hP.out.text hN1
          have hY : Box (Below w.heap.size w w4 ∧ ParseYes L w acc bm w4) := ⟨k1, hgo.out.symm, hP.out.rise, by rw [hP.out.len]; exact hN64, m1, hP.out.bm1⟩
          clear h1 hN1 m1 k1 hgo hP hE
          go_wp2_with fail
          go_returns
          exact ⟨hY.out.1, .inl ⟨acc, bm, rfl, hY.out.2⟩⟩
        · rw [if_neg hE] at hgo
          obtain ⟨x, hx⟩ : ∃ x, endE l e = x := ⟨_, rfl⟩
          rw [hx] at h1 hE
          have hE2 : (x == 0) = false := by simpa using hE
          replace hgo := Box.mk hgo
          replace hx := Box.mk hx
          go_wp2_with fail
          refine h1.out.mono ?_
          rintro r w4 ⟨rfl, hN1⟩
          obtain ⟨_, k1, _⟩ := hP.out.text hN1
          replace k1 := Box.mk k1
          clear h1 hN1 hP hx
          go_wp2_with fail
          go_returns
          exact ⟨k1.out, .inr ⟨hgo.out.symm, _, rfl⟩⟩
end Go.Proofs.YtoaipjpbioaneaaGreat
