/- Walks: a region's place on a device, a copy's room, a copy read. -/
import Derived.Test.YtoaipjpbioaneaaGreatCeZ
namespace Go.Proofs.YtoaipjpbioaneaaGreat
open Go.RowKit Go.Maps

/-- Does the region lie on a device of so many sectors? -/
def inR (S : Nat) (base half : Int) : Bool := decide (0 ≤ base ∧ 2 ≤ half ∧ base + 2 * half ≤ (S : Int))
theorem half_iff (S : Nat) (base half : Int) (h : 2 ≤ half) : half ≤ ((S : Int) - base).tdiv 2 ↔ base + 2 * half ≤ (S : Int) := by
  by_cases h0 : 0 ≤ (S : Int) - base
  · rw [Int.tdiv_eq_ediv_of_nonneg h0]; omega
  · have e : ((S : Int) - base) = -(base - S) := by omega
    rw [e, Int.neg_tdiv, Int.tdiv_eq_ediv_of_nonneg (by omega)]; omega
set_option maxHeartbeats 1600000 in
theorem within_any (S : Nat) (base half : Int) (w : World) (hS : S ≤ 4096) (hb : -9223372036854775808 ≤ base ∧ base ≤ 9223372036854775807) (hh : -9223372036854775808 ≤ half ∧ half ≤ 9223372036854775807) :
    Calls Tryz.prog 39 #[.int .i64 (S : Int), .int .i64 base, .int .i64 half] w fun e w' => e = .returned (.bool (inR S base half)) ∧ w = w' := by
  obtain ⟨r, hr⟩ : ∃ r, inR S base half = r := ⟨_, rfl⟩
  rw [hr]
  replace hr := Box.mk hr
  obtain ⟨b1, b2⟩ := hb
  obtain ⟨h1, h2⟩ := hh
  by_cases c1 : 0 ≤ base
  · by_cases c2 : 2 ≤ half
    · by_cases c3 : half ≤ ((S : Int) - base).tdiv 2
      · have hx : Box (true = r) := ⟨by rw [← hr.out]; unfold inR; have := (half_iff S base half c2).1 c3; simp; omega⟩
        go_enter Tryz.func39, Tryz.ntmps39
        go_wp2
        go_returns
        exact ⟨by rw [← hx.out]; rfl, rfl⟩
      · have hno : ¬ base + 2 * half ≤ (S : Int) := fun h => c3 ((half_iff S base half c2).2 h)
        have hx : Box (false = r) := ⟨by rw [← hr.out]; unfold inR; simp; omega⟩
        clear hno
        go_enter Tryz.func39, Tryz.ntmps39
        go_wp2
        go_returns
        exact ⟨by rw [← hx.out]; rfl, rfl⟩
    · have hx : Box (false = r) := ⟨by rw [← hr.out]; unfold inR; simp; omega⟩
      go_enter Tryz.func39, Tryz.ntmps39
      go_wp2
      go_returns
      exact ⟨by rw [← hx.out]; rfl, rfl⟩
  · have hx : Box (false = r) := ⟨by rw [← hr.out]; unfold inR; simp; omega⟩
    go_enter Tryz.func39, Tryz.ntmps39
    go_wp2
    go_returns
    exact ⟨by rw [← hx.out]; rfl, rfl⟩
set_option maxHeartbeats 400000 in
theorem room_any (u v : Value) (q : Nat) (w : World) (hq : q ≤ 100000) (h1 : 1 ≤ q) :
    Calls Tryz.prog 33 #[.agg #[u, v, .int .i64 (q : Int)]] w fun e w' => e = .returned (.int .i64 (((q : Int) - 1) * 64)) ∧ Below w.heap.size w w' := by
  have hB := (Below.refl w.heap.size w).alloc (Nat.le_refl _) (.cells #[u, v, .int .i64 (q : Int)] 67)
  replace hB := Box.mk hB
  go_enter Tryz.func33, Tryz.ntmps33
  go_wp2
  go_returns
  exact ⟨rfl, hB.out⟩

/-- What read answers of a copy. -/
structure ReadYes (D : Dev) (a half : Nat) (w : World) (n : Nat) (c : Ct) (b : Nat) (w' : World) : Prop where
  is : readM D.seen a half = some (n, c)
  rise : c.Pairwise (fun p q => p.1 < q.1)
  len : c.length ≤ 64
  at_ : MapAt w' b c
  new : w.heap.size ≤ b
def ReadIs (D : Dev) (a half : Nat) (w : World) (e : Ending) (w' : World) : Prop :=
  Below w.heap.size w w' ∧ ((∃ n c b, e = .returned (.tuple #[.int .i64 ((n : Nat) : Int), .map (some b)]) ∧ ReadYes D a half w n c b w') ∨ (readM D.seen a half = none ∧ e = .returned (.tuple #[.int .i64 0, .map none])))
theorem body_one {S : List Sec} {a : Nat} (h : a < S.length) : bodyS S a 1 = S.getD a zeroS := by
  rw [show 1 = 0 + 1 from rfl, bodyS_succ (by omega)]
  simp [bodyS]
set_option maxHeartbeats 6400000 in
set_option maxRecDepth 100000 in
theorem pread_any (bd : Nat) (F : Nat → Prop) (D : Dev) (at_ half : Nat) (w : World) (h : DAt w bd F D) (hoff : D.off = false) (h2 : 2 ≤ half) (hfit : at_ + half ≤ D.safe.length) :
    Calls Tryz.prog 42 #[.agg #[.pointer (some ⟨bd, 0, none⟩), .int .i64 (at_ : Int), .int .i64 (half : Int)]] w (ReadIs D at_ half w) := by
  have hn := h.ok.n
  have hS := h.ok.seen
  have hsl : D.seen.length = D.safe.length := Dev.ok.seen_len
  obtain ⟨w1, hw1⟩ : ∃ w1, w.alloc (.cells #[.pointer (some ⟨bd, 0, none⟩), .int .i64 (at_ : Int), .int .i64 (half : Int)] 67) = w1 := ⟨_, rfl⟩
  obtain ⟨bp, hbp⟩ : ∃ bp, w.heap.size = bp := ⟨_, rfl⟩
  have hP1 : Blk w1 bp [.pointer (some ⟨bd, 0, none⟩), .int .i64 (at_ : Int), .int .i64 (half : Int)] 67 := by
    rw [← hw1, ← hbp]; exact Blk.new w _ _
  have hD1 : DAt w1 bd F D := by rw [← hw1]; exact h.below ((Below.refl _ _).alloc (Nat.le_refl _) _)
  have hB1 : Box (Below w.heap.size w w1) := ⟨by rw [← hw1]; exact (Below.refl _ _).alloc (Nat.le_refl _) _⟩
  have k0 : w1.cell? ⟨bp, 0, none⟩ = some (.pointer (some ⟨bd, 0, none⟩)) := hP1.cell 0
  have k1 : w1.cell? ⟨bp, 1, none⟩ = some (.int .i64 (at_ : Int)) := hP1.cell 1
  have k2 : w1.cell? ⟨bp, 2, none⟩ = some (.int .i64 (half : Int)) := hP1.cell 2
  have hT := ptext_any bd F D at_ 0 64 1 (.int .i64 (half : Int)) w1 hD1 hoff (by omega) (by omega) ⟨_, rfl⟩
  rw [Nat.add_zero, body_one (by omega), List.take_of_length_le (by rw [okS_getD hS]; exact Nat.le_refl _)] at hT
  change Calls _ _ #[_, .int .i64 0, .int .i64 64] _ _ at hT
  obtain ⟨hd, hhd⟩ : ∃ hd, D.seen.getD at_ zeroS = hd := ⟨_, rfl⟩
  rw [hhd] at hT
  replace hT := Box.mk hT
  replace hP1 := Box.mk hP1
  replace hD1 := Box.mk hD1
  replace hS := Box.mk hS
  replace hoff := Box.mk hoff
  replace hsl := Box.mk hsl
  replace hhd := Box.mk hhd
  replace h := Box.mk h
  go_enter Tryz.func42, Tryz.ntmps42
  go_wp2_with fail
  refine hT.out.mono ?_
  rintro e w2 ⟨rfl, hB2⟩
  have hRd := Box.mk (read_one (btx hd) w2)
  clear hT hw1
  go_wp2_with fail
  refine hRd.out.mono ?_
  rintro e w3 ⟨rfl, hr3, hb3⟩
  obtain ⟨br, hbr⟩ : ∃ br, w2.heap.size = br := ⟨_, rfl⟩
  rw [hbr] at hr3
  have hB3 : Box (Below w1.heap.size w1 w3) := ⟨hB2.out.trans (hb3.mono hB2.out.size)⟩
  have hbr1 : Box (w1.heap.size ≤ br) := ⟨by have := hB2.out.size; omega⟩
  have h8 := Box.mk (reight_any br hd 0 w3 hr3)
  clear hRd hr3 hb3 hB2
  obtain ⟨n, hn1⟩ : ∃ n, (numR 8 hd 0).1 = n := ⟨_, rfl⟩
  obtain ⟨l1, hl1⟩ : ∃ l1, (numR 8 hd 0).2.1 = l1 := ⟨_, rfl⟩
  obtain ⟨e1, he1⟩ : ∃ e1, (numR 8 hd 0).2.2 = e1 := ⟨_, rfl⟩
  obtain ⟨sz, hs1⟩ : ∃ sz, (numR 4 l1 e1).1 = sz := ⟨_, rfl⟩
  obtain ⟨l2, hl2⟩ : ∃ l2, (numR 4 l1 e1).2.1 = l2 := ⟨_, rfl⟩
  obtain ⟨e2, he2⟩ : ∃ e2, (numR 4 l1 e1).2.2 = e2 := ⟨_, rfl⟩
  obtain ⟨ag, ha1⟩ : ∃ ag, (numR 8 l2 e2).1 = ag := ⟨_, rfl⟩
  have hhead : Box (headR hd = (n, sz, ag)) := ⟨by unfold headR; rw [hl1, he1, hn1, hl2, he2, hs1, ha1]⟩
  have hnb := numR_le 8 hd 0
  have hsb := numR_le 4 l1 e1
  rw [hn1] at hnb
  rw [hs1] at hsb
  rw [hn1, hl1, he1] at h8
  go_wp2_with fail
  refine h8.out.mono ?_
  rintro r w4 ⟨rfl, hN4⟩
  have h4 := rfour_any br l1 e1 w4 hN4.at_
  rw [hs1, hl2, he2] at h4
  replace h4 := Box.mk h4
  have hB4 : Box (Below w1.heap.size w1 w4) := ⟨hB3.out.trans (hN4.chg.below hB3.out.size (fun _ hi => by rw [hi]; exact hbr1.out))⟩
  clear h8 hN4
  go_wp2_with fail
  refine h4.out.mono ?_
  rintro r w5 ⟨rfl, hN5⟩
  have h9 := reight_any br l2 e2 w5 hN5.at_
  rw [ha1] at h9
  replace h9 := Box.mk h9
  have hB5 : Box (Below w1.heap.size w1 w5) := ⟨hB4.out.trans (hN5.chg.below hB4.out.size (fun _ hi => by rw [hi]; exact hbr1.out))⟩
  clear h4 hN5 hn1 hl1 he1 hs1 hl2 he2 ha1
  go_wp2_with fail
  refine h9.out.mono ?_
  rintro r w6 ⟨rfl, hN6⟩
  have hB6 : Box (Below w1.heap.size w1 w6) := ⟨hB5.out.trans (hN6.chg.below hB5.out.size (fun _ hi => by rw [hi]; exact hbr1.out))⟩
  have hbp1 : Box (bp < w1.heap.size) := ⟨hP1.out.lt⟩
  have hBw : Box (Below w.heap.size w w6) := ⟨hB1.out.trans (hB6.out.mono hB1.out.size)⟩
  have hnone : Box (¬ (1 ≤ n ∧ n ≠ 9223372036854775807 ∧ n = ag ∧ sz ≤ ((half : Int) - 1) * 64) → readM D.seen at_ half = none) := ⟨fun hx => by
    unfold readM
    rw [hhd.out, if_neg]
    unfold headOk
    rw [hhead.out]
    simpa using hx⟩
  clear h9 hN6 k0 k1 k2
  have k0 : w6.cell? ⟨bp, 0, none⟩ = some (.pointer (some ⟨bd, 0, none⟩)) := by rw [hB6.out.cell (p := ⟨bp, 0, none⟩) hbp1.out]; exact hP1.out.cell 0
  have k1 : w6.cell? ⟨bp, 1, none⟩ = some (.int .i64 (at_ : Int)) := by rw [hB6.out.cell (p := ⟨bp, 1, none⟩) hbp1.out]; exact hP1.out.cell 1
  have k2 : w6.cell? ⟨bp, 2, none⟩ = some (.int .i64 (half : Int)) := by rw [hB6.out.cell (p := ⟨bp, 2, none⟩) hbp1.out]; exact hP1.out.cell 2
  by_cases c1 : n < 1
  · have hno : Box (readM D.seen at_ half = none) := ⟨hnone.out (by omega)⟩
    clear hnone
    go_wp2_with fail
    go_returns
    exact ⟨hBw.out, .inr ⟨hno.out, rfl⟩⟩
  · by_cases c2 : n = 9223372036854775807
    · have hno : Box (readM D.seen at_ half = none) := ⟨hnone.out (by omega)⟩
      have q2 : (n == 9223372036854775807) = true := by simpa using c2
      clear hnone
      replace c2 := Box.mk c2
      go_wp2_with fail
      go_returns
      exact ⟨hBw.out, .inr ⟨hno.out, rfl⟩⟩
    · have q2 : (n == 9223372036854775807) = false := by simpa using c2
      by_cases c3 : n = ag
      · subst c3
        have hroom := (room_any (.pointer (some ⟨bd, 0, none⟩)) (.int .i64 (at_ : Int)) half w6 (by omega) (by omega))
        replace hroom := Box.mk hroom
        by_cases c4 : ((half : Int) - 1) * 64 < sz
        · have hno : Box (readM D.seen at_ half = none) := ⟨hnone.out (by omega)⟩
          clear hnone
          replace c2 := Box.mk c2
          go_wp2_with fail
          refine hroom.out.mono ?_
          rintro e w7 ⟨rfl, hb7⟩
          have hB7 : Box (Below w.heap.size w w7) := ⟨hBw.out.trans (hb7.mono hBw.out.size)⟩
          clear hroom hb7 k0 k1 k2
          go_wp2_with fail
          go_returns
          exact ⟨hB7.out, .inr ⟨hno.out, rfl⟩⟩
        · have hok : Box (headOk hd half = true) := ⟨by
            unfold headOk
            rw [hhead.out]
            have h1 : 1 ≤ n := by omega
            have h4 : sz ≤ ((half : Int) - 1) * 64 := by omega
            simp [h1, c2, h4]⟩
          obtain ⟨size, rfl⟩ : ∃ size : Nat, sz = size := ⟨sz.toNat, by omega⟩
          obtain ⟨m, rfl⟩ : ∃ m : Nat, n = m := ⟨n.toNat, by omega⟩
          have hdef : Box (readM D.seen at_ half = (parseC ((bodyS D.seen (at_ + 1) (half - 1)).take size)).map fun c => (m, c)) := ⟨by
            unfold readM
            rw [hhd.out, if_pos hok.out, hhead.out]
            simp only [Int.toNat_natCast]⟩
          have hfitb : size ≤ 64 * (half - 1) := by omega
          clear hnone
          replace c2 := Box.mk c2
          go_wp2_with fail
          refine hroom.out.mono ?_
          rintro e w7 ⟨rfl, hb7⟩
          have hB7 : Box (Below w1.heap.size w1 w7) := ⟨hB6.out.trans (hb7.mono hB6.out.size)⟩
          have hT7 := ptext_any bd F D at_ 1 size (half - 1) (.int .i64 (half : Int)) w7 (hD1.out.below hB7.out) hoff.out hfitb (by omega) ⟨_, rfl⟩
          change Calls _ _ #[_, .int .i64 1, _] _ _ at hT7
          obtain ⟨bs, hbs⟩ : ∃ bs, (bodyS D.seen (at_ + 1) (half - 1)).take size = bs := ⟨_, rfl⟩
          rw [hbs] at hT7 hdef
          clear hroom hb7 k0 k1 k2 hbs
          have k0 : w7.cell? ⟨bp, 0, none⟩ = some (.pointer (some ⟨bd, 0, none⟩)) := by rw [hB7.out.cell (p := ⟨bp, 0, none⟩) hbp1.out]; exact hP1.out.cell 0
          have k1 : w7.cell? ⟨bp, 1, none⟩ = some (.int .i64 (at_ : Int)) := by rw [hB7.out.cell (p := ⟨bp, 1, none⟩) hbp1.out]; exact hP1.out.cell 1
          have k2 : w7.cell? ⟨bp, 2, none⟩ = some (.int .i64 (half : Int)) := by rw [hB7.out.cell (p := ⟨bp, 2, none⟩) hbp1.out]; exact hP1.out.cell 2
          replace hT7 := Box.mk hT7
          go_wp2_with fail
          refine hT7.out.mono ?_
          rintro e w8 ⟨rfl, hb8⟩
          have hB8 : Box (Below w.heap.size w w8) := ⟨hB1.out.trans ((hB7.out.trans (hb8.out.mono hB7.out.size)).mono hB1.out.size)⟩
          have hPs := Box.mk (parse_any bs w8)
          clear hT7 hb8 k0 k1 k2
          go_wp2_with fail
          refine hPs.out.mono ?_
          rintro e w9 ⟨hb9, hcase⟩
          have hB9 : Box (Below w.heap.size w w9) := ⟨hB8.out.trans (hb9.mono hB8.out.size)⟩
          clear hPs hb9
          rcases hcase with ⟨c, b, rfl, hY⟩ | ⟨hno, p, rfl⟩
          · have hR : Box (ReadYes D at_ half w m c b w9) := ⟨by rw [hdef.out, hY.is]; rfl, hY.rise, hY.len, hY.at_, Nat.le_trans hB8.out.size hY.new⟩
            clear hY
            go_wp2_with fail
            go_returns
            exact ⟨hB9.out, .inl ⟨m, c, b, rfl, hR.out⟩⟩
          · have hR : Box (readM D.seen at_ half = none) := ⟨by rw [hdef.out, hno]; rfl⟩
            clear hno
            go_wp2_with fail
            go_returns
            exact ⟨hB9.out, .inr ⟨hR.out, rfl⟩⟩
      · have hno : Box (readM D.seen at_ half = none) := ⟨hnone.out (by omega)⟩
        have q3 : (n != ag) = true := by simpa using c3
        clear hnone
        replace c2 := Box.mk c2
        replace c3 := Box.mk c3
        go_wp2_with fail
        go_returns
        exact ⟨hBw.out, .inr ⟨hno.out, rfl⟩⟩
end Go.Proofs.YtoaipjpbioaneaaGreat
