/- Consistency out of tiles. | Consistency out of tiles: where no proof is wanted. | A list's tiles as a source: the law's Files. | tiles.ask over any source that answers. -/
import Derived.Test.YtlkopllpadhnlaaDoorMUc
import Derived.Test.YtlkopllpadhnlaaDoorMUb
namespace Go.Proofs.YtlkopllpadhnlaaDoor
open Go Go.RowKit

/-- The lowest power in a number. -/
def lowZ (m : Nat) : Nat := 2 ^ Lib.ctz 64 m
theorem low_bits : ∀ m : Fin 1025, m.val ≠ 0 → bits BinOp.and IntKind.i64 (m.val : Int) (-(m.val : Int)) = ((lowZ m.val : Nat) : Int) := by decide +kernel
theorem low_odd : ∀ m : Fin 1025, m.val ≠ 0 → m.val % lowZ m.val = 0 ∧ m.val / lowZ m.val % 2 = 1 := by decide +kernel
theorem und_last {m a q : Nat} (hm : m = 2 ^ a * q) (hq : q % 2 = 1) : ∀ (s f h : Nat), s ≤ 2 ^ h → 2 ^ h ∣ f → f < m → m ≤ f + s → (m = f + s → 2 ^ a = s) → Und (m - 2 ^ a) (2 ^ a) f s := by
  intro s
  induction s using Nat.strongRecOn with
  | ind s ih =>
    intro f h hs hf h1 h2 h3
    have hza := Nat.two_pow_pos a
    have hzm : 2 ^ a ≤ m := by
      rw [hm]
      exact Nat.le_mul_of_pos_right _ (by omega)
    by_cases he : m = f + s
    · have := h3 he
      have e1 : m - 2 ^ a = f := by omega
      rw [e1, this]
      exact .here
    · have hs2 : 2 ≤ s := by omega
      have hlt := cutN_lt hs2
      have hpos := cutN_pos s
      have hge := cutN_ge s
      obtain ⟨j, hj⟩ : ∃ j, cutN s = 2 ^ j := ⟨_, rfl⟩
      have hjh : j < h := by
        rcases Nat.lt_or_ge j h with h' | h'
        · exact h'
        · have := Nat.pow_le_pow_right (show 0 < 2 by decide) h'
          omega
      have hd : 2 ^ (j + 1) ∣ f := Nat.dvd_trans (Nat.pow_dvd_pow 2 (by omega)) hf
      have hne : ¬ (m - 2 ^ a = f ∧ 2 ^ a = s) := fun hh => by omega
      rw [hj] at hlt hpos hge
      by_cases hl : m ≤ f + 2 ^ j
      · refine .left hs2 hne (by rw [hj]; omega) ?_
        rw [hj]
        refine ih _ hlt f j (Nat.le_refl _) (Nat.dvd_trans (Nat.pow_dvd_pow 2 (by omega)) hf) h1 hl fun e => ?_
        -- m = f + 2^j, 2^(j+1) divides f: the lowest power is 2^j
        obtain ⟨r, hr⟩ := hd
        have e2 : 2 ^ a * q = 2 ^ j * (2 * r + 1) := by
          rw [← hm, e, hr, Nat.pow_succ, Nat.mul_add, Nat.mul_one, Nat.mul_assoc]
        rcases Nat.lt_trichotomy a j with h' | h' | h'
        · exfalso
          obtain ⟨d, rfl⟩ : ∃ d, j = a + 1 + d := ⟨j - (a + 1), by omega⟩
          rw [Nat.pow_add, Nat.pow_succ, Nat.mul_assoc, Nat.mul_assoc] at e2
          have := Nat.eq_of_mul_eq_mul_left hza e2
          omega
        · rw [h']
        · exfalso
          obtain ⟨d, rfl⟩ : ∃ d, a = j + 1 + d := ⟨a - (j + 1), by omega⟩
          rw [Nat.pow_add, Nat.pow_succ, Nat.mul_assoc, Nat.mul_assoc] at e2
          have := Nat.eq_of_mul_eq_mul_left hpos e2
          omega
      · have hzr : f + 2 ^ j ≤ m - 2 ^ a := by
          rcases Nat.lt_or_ge a j with h' | h'
          · -- 2^a divides f + 2^j and m
            have d1 : 2 ^ a ∣ f + 2 ^ j := Nat.dvd_add (Nat.dvd_trans (Nat.pow_dvd_pow 2 (by omega)) hf) (Nat.pow_dvd_pow 2 (by omega))
            have d2 : 2 ^ a ∣ m := ⟨q, hm⟩
            have d3 : 2 ^ a ∣ m - (f + 2 ^ j) := Nat.dvd_sub d2 d1
            have := Nat.le_of_dvd (by omega) d3
            omega
          · exfalso
            have d1 : 2 ^ j ∣ f + 2 ^ j := Nat.dvd_add (Nat.dvd_trans (Nat.pow_dvd_pow 2 (by omega)) hf) (Nat.dvd_refl _)
            have d2 : 2 ^ j ∣ m := Nat.dvd_trans (Nat.pow_dvd_pow 2 h') ⟨q, hm⟩
            have d3 : 2 ^ j ∣ m - (f + 2 ^ j) := Nat.dvd_sub d2 d1
            have := Nat.le_of_dvd (by omega) d3
            omega
        refine .right hs2 hne (by rw [hj]; omega) ?_
        rw [hj]
        exact ih _ (by omega) _ j (by omega) (Nat.dvd_add (Nat.dvd_trans (Nat.pow_dvd_pow 2 (by omega)) hf) (Nat.dvd_refl _)) (by omega) (by omega) fun e => by omega
theorem low_und {m n : Nat} (h0 : 0 < m) (hmn : m < n) (hn : n ≤ 1024) : Und (m - lowZ m) (lowZ m) 0 n ∧ Part n (m - lowZ m) (lowZ m) ∧ lowZ m ≤ m := by
  obtain ⟨h1, h2⟩ := low_odd ⟨m, by omega⟩ (by show m ≠ 0; omega)
  simp only at h1 h2
  have hz := Nat.two_pow_pos (Lib.ctz 64 m)
  have hm : m = lowZ m * (m / lowZ m) := by rw [Nat.mul_div_cancel' (Nat.dvd_of_mod_eq_zero h1)]
  have hle : lowZ m ≤ m := Nat.le_of_dvd h0 (Nat.dvd_of_mod_eq_zero h1)
  refine ⟨und_last hm h2 n 0 n (Nat.le_of_lt Nat.lt_two_pow_self) (Nat.dvd_zero _) h0 (by omega) (by omega), ⟨hz, by omega, Lib.ctz 64 m, Nat.le_refl _, Nat.dvd_sub (Nat.dvd_of_mod_eq_zero h1) (Nat.dvd_refl _)⟩, hle⟩
theorem RowB.pushs {B : Nat} {S : Src B} {n g : Nat} {A0 A : List Tl} {b0 : Nat} {v v' : Value} {P Q : List ByteArray} {F : Nat → Prop} {w w' : World} (h : RowB S n g A0 b0 v P A F w) (hp : PushedT b0 w v (P ++ Q) v' w') (hQ : ∀ x ∈ Q, x.size ≤ 32) : RowB S n g A0 b0 v' (P ++ Q) A F w' := by
  obtain ⟨u, Fs, hG, hF⟩ := h.at_.ex
  refine ⟨⟨⟨u, Fs, hG.on hp.chg (fun k hk e => h.vF k e ((hF k).2 hk)) (fun k e => Nat.le_trans h.bB (h.row.own k e).1), hF⟩, h.at_.tiles, h.at_.oks, h.at_.len⟩, hp.row, fun k hk e => ?_, fun y hy => ?_, h.bB⟩
  · rcases hp.place k hk with h1 | h1
    · exact h.vF k h1 e
    · have := (h.at_.lt k e).2; omega
  · rcases List.mem_append.1 hy with h1 | h1
    · exact h.sz y h1
    · exact hQ y h1
def conG (G : Nat → Nat → ByteArray) (m n : Nat) : List ByteArray := (if lowZ m < m then [rootG G (m - lowZ m) (lowZ m)] else []) ++ besG G (m - lowZ m) (lowZ m) 0 n
theorem conG_eq (G : Nat → Nat → ByteArray) (m n z : Nat) (h : lowZ m = z) : conG G m n = (if z < m then [rootG G (m - z) z] else []) ++ besG G (m - z) z 0 n := by rw [← h]; rfl
set_option maxHeartbeats 6400000 in
set_option maxRecDepth 100000 in
theorem tcon_any {B : Nat} (S : Src B) (n m : Nat) (A0 : List Tl) (Fs : Nat → Prop) (w : World) (h : S.I w Fs A0) (hL : Ld B w) (hB : B ≤ w.heap.size) (hm0 : 0 < m) (hmn : m < n) (hn : n ≤ 1024) (hl : A0.length ≤ 70000) :
    Calls Tryd.prog 23 #[S.sv, .int .i64 (n : Int), .int .i64 (m : Int)] w (ProofT S n A0 Fs w fun G => conG G m n) := by
  have hBq := Box.mk hB
  obtain ⟨tp, pp, hsv⟩ := S.iface
  have hRd := readable_any tp pp n w
  have hd : (decide (0 ≤ (n : Int)) && decide ((n : Int) ≤ 1024)) = true := by simp; omega
  rw [hd] at hRd
  have hbz := low_bits ⟨m, by omega⟩ (by show m ≠ 0; omega)
  simp only at hbz
  obtain ⟨hU, hPt, hzm⟩ := low_und hm0 hmn hn
  obtain ⟨z, hz⟩ : ∃ z, lowZ m = z := ⟨_, rfl⟩
  have hzz := Box.mk (fun (G : Nat → Nat → ByteArray) => conG_eq G m n z hz)
  rw [hz] at hbz hU hPt hzm
  have hat := rd_new (n := n) h hB (by omega)
  have hba := bel_alloc w (.cells #[S.sv, .int .i64 (n : Int), .slice none 0 0, .int .i64 0] 93)
  obtain ⟨W0, hW0⟩ : ∃ W0, w.alloc (.cells #[S.sv, .int .i64 (n : Int), .slice none 0 0, .int .i64 0] 93) = W0 := ⟨_, rfl⟩
  have hsn := Box.mk (fun A' F' w' d => RN.sn (S := S) (n := n) (A0 := A0) (A' := A') (Fs := Fs) (F' := F') (w := w) (w' := w') (d := d))
  rw [hW0] at hsn hba hat
  have hW1 : W0.heap.size = w.heap.size + 1 := by rw [← hW0]; simp
  obtain ⟨W1, hW2⟩ : ∃ W1, W0.alloc (.cells #[.int .i64 ((m : Int) - (z : Int)), .int .i64 (z : Int)] 96) = W1 := ⟨_, rfl⟩
  have hb1 : Below W0.heap.size W0 W1 := by rw [← hW2]; exact bel_alloc _ _
  have hbk : Pk.Blk W1 W0.heap.size [.int .i64 ((m : Int) - (z : Int)), .int .i64 (z : Int)] 96 := by rw [← hW2]; exact Pk.Blk.new W0 _ _
  have hLd := (hL.here hba hB).here hb1 (Nat.le_trans hB hba.size)
  have hst := RN.still hat hb1
  have hsz := Nat.le_trans hba.size hb1.size
  have hFl := hat.lt
  rw [hsv] at hW0 ⊢
  have q1 : ¬ ((m : Int) < 0) := by omega
  have q2 : ¬ ((n : Int) < (m : Int)) := by omega
  have q3 : ((m : Int) == 0) = false := by simp; omega
  have q4 : ((m : Int) == (n : Int)) = false := by simp; omega
  have hc : ((m - z : Nat) : Int) = (m : Int) - (z : Int) := by omega
  have hKb := Box.mk (fun A F w' (ha : RdAt S n w.heap.size A0 A F w') hl' hb' hl2 => beside_any S n w.heap.size A0 hn (m - z) z n 0 A F w' hU ha hl' hb' (Part.all (by omega)) hl2)
  have hKr := Box.mk (fun A F w' (ha : RdAt S n w.heap.size A0 A F w') hl' hb' hl2 => kroot_any S n w.heap.size A0 hn z (m - z) A F w' ha hl' hb' hPt hl2)
  unfold pv BesIs at hKb
  unfold pv RootIs at hKr
  rw [hc] at hKb hKr
  unfold ProofT
  replace hW0 := Box.mk hW0
  replace hW2 := Box.mk hW2
  replace hba := Box.mk hba
  replace hb1 := Box.mk hb1
  replace hLd := Box.mk hLd
  replace hst := Box.mk hst
  replace hsz := Box.mk hsz
  replace hFl := Box.mk hFl
  replace hbk := Box.mk hbk
  clear h hL hat hd hsv hU hPt hz hc
  go_enter Tryd.func23, Tryd.ntmps23
  go_wp2_with fail
  refine hRd.mono ?_
  clear hRd
  rintro e w1 ⟨rfl, hw1⟩
  subst hw1
  by_cases hzl : z < m
  · have q5 : (z : Int) < (m : Int) := by omega
    go_wp2_with fail
    rw [hW0.out, hW2.out]
    refine (hKr.out [] _ W1 hst.out.at_ hLd.out (Nat.le_trans hB hsz.out) (by simp; omega)).mono ?_
    rintro e w1 ⟨A1, F1, x1, rfl, hR1, hz1, hx1r⟩
    have hbk1 := Box.mk (hR1.blk hbk.out fun e => by have := (hFl.out _ e).2; omega)
    have hB1 : RowB S n w.heap.size A0 w.heap.size (.slice none 0 0) [] A1 F1 w1 := ⟨hR1.at_, TxR.nil _ _, fun k hk => (by cases hk), fun x hx => (by cases hx), hBq.out⟩
    have hLd1 := hLd.out.below (hR1.below hst.out.at_ (Nat.le_trans hB hsz.out))
    have hsz1 := Nat.le_trans hsz.out hR1.chg.size
    have hB2 := Box.mk (hB1.here (bel_alloc w1 (.cells #[.string x1] 9)))
    have hR3 := Box.mk ((hst.out.trans hR1).trans (RN.still hR1.at_ (bel_alloc w1 (.cells #[.string x1] 9))))
    have hA1 := Box.mk hR1.len
    have hbk2 := Box.mk (((bel_alloc w1 (.cells #[.string x1] 9)).block _ (Pk.Blk.lt hbk1.out)).trans hbk1.out)
    have hLd2 := Box.mk (hLd1.here (bel_alloc w1 (.cells #[.string x1] 9)) (Nat.le_trans hB hsz1))
    have hsz2 := Box.mk (Nat.le_trans hsz1 (bel_alloc w1 (.cells #[.string x1] 9)).size)
    replace hz1 := Box.mk hz1
    replace hx1r := Box.mk hx1r
    clear hR1 hB1 hLd1 hsz1 hst hLd hsz hbk1 hKr hW2
    go_wp2_with (at_builtin; refine wpList_pushT rfl (.tmp 47) (.tmp 50) rfl w.heap.size _ [] [x1] rfl hB2.out.row hsz2.out (some ⟨w1.heap.size, 0, none⟩) 1 1 rfl rfl (parts_new w1 [x1] 9) (by simp) ?_)
    rintro v1 w5 hp5
    have hB5 := Box.mk (hB2.out.pushs hp5 fun x hx => by rw [List.mem_singleton.1 hx]; exact hz1.out)
    have hbk5 : Pk.Blk w5 W0.heap.size [.int .i64 ((m : Int) - (z : Int)), .int .i64 (z : Int)] 96 := hp5.chg.blk hbk2.out fun e => by cases e
    have hR5 : Box (RN S n w.heap.size A0 [] (RF w.heap.size (.slice none 0 0) Fs) W0 (2 * n) A1 F1 w5) := ⟨hB5.out.at_, hR3.out.chg.trans hp5.chg fun i hi e => (by cases e), hR3.out.foot, hR3.out.pre, by have := hR3.out.len; simp at this ⊢; omega⟩
    have hLd5 := Box.mk (hLd2.out.below (hp5.chg.below (Nat.le_trans hB hsz2.out) fun i hi => by cases hi))
    have hsz5 := Box.mk (Nat.le_trans hsz2.out hp5.chg.size)
    obtain ⟨P1, hP1⟩ : ∃ P1, [x1] = P1 := ⟨_, rfl⟩
    have hx1 : Box (errA S A1 = 0 → ∀ G, Tells S A1 G → P1 = if z < m then [rootG G (m - z) z] else []) := ⟨fun h G hT => by rw [if_pos hzl, ← hP1, hx1r.out h G hT]⟩
    have hp1 : Box (P1.length ≤ 1) := ⟨by rw [← hP1]; simp⟩
    rw [List.nil_append, hP1] at hB5
    obtain ⟨a1, c1, rfl⟩ := hB5.out.row.shape
    have d0 := hbk5.cell 0
    have d1 := hbk5.cell 1
    simp only [List.getElem?_cons_zero, List.getElem?_cons_succ, hW1] at d0 d1
    clear hp5 hR3 hB2 hbk5 hbk2 hLd2 hsz2 hbk hx1r hP1
    go_wp2_with fail
    refine (hKb.out A1 F1 w5 hB5.out.at_ hLd5.out (Nat.le_trans hB hsz5.out) (by have := hA1.out; simp at this; omega)).mono ?_
    rintro e w6 ⟨A2, F2, v2, P2, rfl, hR2, hRow2, hpl2, hx2⟩
    have hB6 := Box.mk (hB5.out.next hR2)
    have hR6 := Box.mk (hR5.out.trans hR2)
    have hpre := Box.mk hR2.pre
    obtain ⟨a2, c2, rfl⟩ := hRow2.row.shape
    have hz := Box.mk hRow2.row.parts
    have hsz6 := Box.mk (Nat.le_trans hsz5.out hR2.chg.size)
    have hQ2 := Box.mk hRow2.sz
    replace hpl2 := Box.mk hpl2
    replace hx2 := Box.mk hx2
    clear hR2 hRow2 hR5 hB5 hLd5 hKb d0 d1
    go_wp2_with (at_builtin; refine wpList_pushT rfl (.tmp 52) (.tmp 56) rfl w.heap.size _ P1 P2 rfl hB6.out.row hsz6.out a2 P2.length c2 rfl rfl hz.out (by have := hpl2.out; have := hp1.out; omega) ?_)
    rintro v' w7 hp7
    have hB7 := Box.mk (hB6.out.pushs hp7 hQ2.out)
    have hR7 := Box.mk ({ at_ := hB7.out.at_, chg := hR6.out.chg.trans hp7.chg fun i hi e => .inl (by have := (hB6.out.row.own i e).1; omega), foot := hR6.out.foot, pre := hR6.out.pre, len := hR6.out.len } : RN S n w.heap.size A0 [] (RF w.heap.size (.slice none 0 0) Fs) W0 _ A2 F2 w7)
    obtain ⟨Fs', hS, hFF, _, c3, _⟩ := hsn.out A2 F2 w7 _ hR7.out (by omega)
    obtain ⟨a, c, rfl⟩ := hB7.out.row.shape
    obtain ⟨Lq, hLq⟩ : ∃ q, (P1 ++ P2).length = q := ⟨_, rfl⟩
    rw [hLq] at hB7 ⊢
    clear hLq
    have hE := tend_any w.heap.size (errA S A2) a Lq c w7 c3
    replace hS := Box.mk hS
    replace hFF := Box.mk hFF
    clear hp7 hz hB6 hR6 hR7 hsn hW0 c3
    go_wp2_with fail
    refine hE.mono ?_
    clear hE
    rintro e w8 ⟨h1, h2, hb⟩
    by_cases he : errA S A2 = 0
    · rw [h1 he]
      replace he := Box.mk he
      replace hb := Box.mk hb
      clear h1 h2
      go_wp2_with fail
      go_returns
      refine ⟨A2, Fs', _, P1 ++ P2, by rw [he.out]; rfl, hS.out.here hb.out, hB7.out.row.here hb.out, fun k hk hF => hB7.out.vF k hk (hFF.out k hF), fun h => absurd he.out h, fun h G hT => ?_, hB7.out.sz⟩
      have e1 := errA_pre hB7.out.at_ hpre.out h
      rw [hzz.out G, ← hx2.out h G hT, ← hx1.out e1 G (hT.pre hpre.out)]
    · rw [h2 he]
      obtain ⟨E, hEe⟩ : ∃ E, errA S A2 = E := ⟨_, rfl⟩
      rw [hEe] at he ⊢
      replace hEe := Box.mk hEe
      replace he := Box.mk he
      replace hb := Box.mk hb
      clear h1 h2
      go_wp2_with fail
      go_returns
      exact ⟨A2, Fs', _, [], by rw [hEe.out]; rfl, hS.out.here hb.out, TxR.nil _ _, fun k hk => (by cases hk), fun _ => rfl, fun h => absurd (hEe.out.symm.trans h) he.out, fun x hx => (by cases hx)⟩
  · have q5 : ¬ (z : Int) < (m : Int) := by omega
    obtain ⟨A1, hA1e⟩ : ∃ A1 : List Tl, [] = A1 := ⟨_, rfl⟩
    obtain ⟨F1, hF1e⟩ : ∃ F1, RF w.heap.size (.slice none 0 0) Fs = F1 := ⟨_, rfl⟩
    obtain ⟨P1, hP1⟩ : ∃ P1 : List ByteArray, [] = P1 := ⟨_, rfl⟩
    have hB5 : Box (RowB S n w.heap.size A0 w.heap.size (.slice none 0 0) P1 A1 F1 W1) := ⟨by rw [← hA1e, ← hF1e, ← hP1]; exact ⟨hst.out.at_, TxR.nil _ _, fun k hk => (by cases hk), fun x hx => (by cases hx), hBq.out⟩⟩
    have hR5 : Box (RN S n w.heap.size A0 [] (RF w.heap.size (.slice none 0 0) Fs) W0 (2 * n) A1 F1 W1) := ⟨by rw [← hA1e, ← hF1e]; exact hst.out.more (Nat.zero_le _)⟩
    have hA1 : Box (A1.length ≤ ([] : List Tl).length + 2 * z) := ⟨by rw [← hA1e]; simp⟩
    have hx1 : Box (errA S A1 = 0 → ∀ G, Tells S A1 G → P1 = if z < m then [rootG G (m - z) z] else []) := ⟨fun h G hT => by rw [if_neg hzl, ← hP1]⟩
    have hp1 : Box (P1.length ≤ 1) := ⟨by rw [← hP1]; simp⟩
    have hLd5 := hLd
    have hsz5 := hsz
    obtain ⟨w5, hw5⟩ : ∃ w5, W1 = w5 := ⟨_, rfl⟩
    have d0 := Pk.Blk.cell hbk.out 0
    have d1 := Pk.Blk.cell hbk.out 1
    simp only [List.getElem?_cons_zero, List.getElem?_cons_succ, hW1] at d0 d1
    rw [hw5] at hB5 hR5 hLd5 hsz5 d0 d1
    replace hP1 := Box.mk hP1
    replace hw5 := Box.mk hw5
    clear hst hLd hsz hbk hA1e hF1e hKr
    go_wp2_with fail
    rw [hW0.out, hW2.out, hw5.out]
    clear hW2 hw5
    refine (hKb.out A1 F1 w5 hB5.out.at_ hLd5.out (Nat.le_trans hB hsz5.out) (by have := hA1.out; simp at this; omega)).mono ?_
    rintro e w6 ⟨A2, F2, v2, P2, rfl, hR2, hRow2, hpl2, hx2⟩
    have hB6 := Box.mk (hB5.out.next hR2)
    have hR6 := Box.mk (hR5.out.trans hR2)
    have hpre := Box.mk hR2.pre
    obtain ⟨a2, c2, rfl⟩ := hRow2.row.shape
    have hz := Box.mk hRow2.row.parts
    have hsz6 := Box.mk (Nat.le_trans hsz5.out hR2.chg.size)
    have hQ2 := Box.mk hRow2.sz
    replace hpl2 := Box.mk hpl2
    replace hx2 := Box.mk hx2
    clear hR2 hRow2 hR5 hB5 hLd5 hKb d0 d1
    go_wp2_with (at_builtin; refine wpList_pushT rfl (.tmp 52) (.tmp 56) rfl w.heap.size _ P1 P2 rfl hB6.out.row hsz6.out a2 P2.length c2 rfl rfl hz.out (by have := hpl2.out; have := hp1.out; omega) ?_)
    rintro v' w7 hp7
    have hB7 := Box.mk (hB6.out.pushs hp7 hQ2.out)
    have hR7 := Box.mk ({ at_ := hB7.out.at_, chg := hR6.out.chg.trans hp7.chg fun i hi e => .inl (by have := (hB6.out.row.own i e).1; omega), foot := hR6.out.foot, pre := hR6.out.pre, len := hR6.out.len } : RN S n w.heap.size A0 [] (RF w.heap.size (.slice none 0 0) Fs) W0 _ A2 F2 w7)
    obtain ⟨Fs', hS, hFF, _, c3, _⟩ := hsn.out A2 F2 w7 _ hR7.out (by omega)
    obtain ⟨a, c, rfl⟩ := hB7.out.row.shape
    obtain ⟨Lq, hLq⟩ : ∃ q, (P1 ++ P2).length = q := ⟨_, rfl⟩
    rw [hLq] at hB7 ⊢
    clear hLq
    have hE := tend_any w.heap.size (errA S A2) a Lq c w7 c3
    replace hS := Box.mk hS
    replace hFF := Box.mk hFF
    clear hp7 hz hB6 hR6 hR7 hsn hW0 c3
    go_wp2_with fail
    refine hE.mono ?_
    clear hE
    rintro e w8 ⟨h1, h2, hb⟩
    by_cases he : errA S A2 = 0
    · rw [h1 he]
      replace he := Box.mk he
      replace hb := Box.mk hb
      clear h1 h2
      go_wp2_with fail
      go_returns
      refine ⟨A2, Fs', _, P1 ++ P2, by rw [he.out]; rfl, hS.out.here hb.out, hB7.out.row.here hb.out, fun k hk hF => hB7.out.vF k hk (hFF.out k hF), fun h => absurd he.out h, fun h G hT => ?_, hB7.out.sz⟩
      have e1 := errA_pre hB7.out.at_ hpre.out h
      rw [hzz.out G, ← hx2.out h G hT, ← hx1.out e1 G (hT.pre hpre.out)]
    · rw [h2 he]
      obtain ⟨E, hEe⟩ : ∃ E, errA S A2 = E := ⟨_, rfl⟩
      rw [hEe] at he ⊢
      replace hEe := Box.mk hEe
      replace he := Box.mk he
      replace hb := Box.mk hb
      clear h1 h2
      go_wp2_with fail
      go_returns
      exact ⟨A2, Fs', _, [], by rw [hEe.out]; rfl, hS.out.here hb.out, TxR.nil _ _, fun k hk => (by cases hk), fun _ => rfl, fun h => absurd (hEe.out.symm.trans h) he.out, fun x hx => (by cases hx)⟩
end Go.Proofs.YtlkopllpadhnlaaDoor

namespace Go.Proofs.YtlkopllpadhnlaaDoor
open Go Go.RowKit

set_option maxHeartbeats 1600000 in
set_option maxRecDepth 100000 in
theorem tcon_edge {B : Nat} (S : Src B) (n m : Int) (w : World) (h0 : 0 ≤ m) (h1 : m ≤ n) (hn : n ≤ 1024) (he : m = 0 ∨ m = n) :
    Calls Tryd.prog 23 #[S.sv, .int .i64 n, .int .i64 m] w fun e w' => e = .returned (.tuple #[.slice none 0 0, .int .i64 0]) ∧ w = w' := by
  obtain ⟨tp, pp, hsv⟩ := S.iface
  rw [hsv]
  have hRd := readable_any tp pp n w
  rw [show (decide (0 ≤ n) && decide (n ≤ 1024)) = true by simp; omega] at hRd
  have q1 : ¬ m < 0 := by omega
  have q2 : ¬ n < m := by omega
  by_cases hm : m = 0
  · subst hm
    clear he
    go_enter Tryd.func23, Tryd.ntmps23
    go_wp2_with fail
    refine hRd.mono ?_
    rintro e w1 ⟨rfl, hw1⟩
    subst hw1
    go_wp2_with fail
    all_goals (go_returns; exact ⟨rfl, rfl⟩)
  · obtain rfl : m = n := by omega
    have q3 : (m == 0) = false := by simpa using hm
    clear he
    go_enter Tryd.func23, Tryd.ntmps23
    go_wp2_with fail
    refine hRd.mono ?_
    rintro e w1 ⟨rfl, hw1⟩
    subst hw1
    go_wp2_with fail
    all_goals (go_returns; exact ⟨rfl, rfl⟩)
set_option maxHeartbeats 1600000 in
set_option maxRecDepth 100000 in
theorem tcon_bad {B : Nat} (S : Src B) (n m : Int) (w : World) (hb : n < 0 ∨ 1024 < n ∨ m < 0 ∨ n < m) :
    Calls Tryd.prog 23 #[S.sv, .int .i64 n, .int .i64 m] w fun e w' => e = .returned (.tuple #[.slice none 0 0, .int .i64 1]) ∧ w = w' := by
  obtain ⟨tp, pp, hsv⟩ := S.iface
  rw [hsv]
  have hRd := readable_any tp pp n w
  cases hd : (decide (0 ≤ n) && decide (n ≤ 1024)) with
  | false =>
    rw [hd] at hRd
    clear hb hd
    go_enter Tryd.func23, Tryd.ntmps23
    go_wp2_with fail
    refine hRd.mono ?_
    rintro e w1 ⟨rfl, hw1⟩
    subst hw1
    go_wp2_with fail
    go_returns
    exact ⟨rfl, rfl⟩
  | true =>
    rw [hd] at hRd
    have hd2 : 0 ≤ n ∧ n ≤ 1024 := by simpa using hd
    by_cases h0 : m < 0
    · clear hb hd
      go_enter Tryd.func23, Tryd.ntmps23
      go_wp2_with fail
      refine hRd.mono ?_
      rintro e w1 ⟨rfl, hw1⟩
      subst hw1
      go_wp2_with fail
      go_returns
      exact ⟨rfl, rfl⟩
    · have h1 : n < m := by omega
      clear hb hd
      go_enter Tryd.func23, Tryd.ntmps23
      go_wp2_with fail
      refine hRd.mono ?_
      rintro e w1 ⟨rfl, hw1⟩
      subst hw1
      go_wp2_with fail
      go_returns
      exact ⟨rfl, rfl⟩
end Go.Proofs.YtlkopllpadhnlaaDoor

namespace Go.Proofs.YtlkopllpadhnlaaDoor
open Go Go.RowKit

theorem PA.chg {T : Nat → Prop} {w w' : World} {a : Option Addr} {n c : Nat} {l : List ByteArray} (h : PA w a n c l) (hc : Pk.Chg T w w') (hT : ∀ ad, a = some ad → ¬ T ad.block) : PA w' a n c l :=
  ⟨h.len, h.cap, h.top, fun h0 => by
    obtain ⟨blk, off, rfl, hl, hcl⟩ := h.at_ h0
    refine ⟨blk, off, rfl, Nat.lt_of_lt_of_le hl hc.size, fun i hi => ?_⟩
    have hb := hc.block blk hl (hT _ rfl)
    unfold World.cell?
    have := hcl i hi
    unfold World.cell? at this
    simp only at this ⊢
    rw [hb]; exact this⟩
/-- Files in block g: a list's hashes, the path that fails, the path that is too long, what was asked for (F: its blocks). -/
structure FlAt (B : Nat) (a : Option Addr) (n c : Nat) (l : List ByteArray) (gone long : ByteArray) (g : Nat) (w : World) (F : Nat → Prop) (A : List ByteArray) : Prop where
  ex : ∃ va, Pk.Blk w g [.slice a n c, .string gone, .string long, va] 46 ∧ TxR B w va A ∧ (∀ k, F k ↔ k = g ∨ va.ownBlock = some k ∨ ∃ ad, a = some ad ∧ ad.block = k) ∧ ∀ ad, a = some ad → B ≤ ad.block ∧ ad.block < w.heap.size ∧ ad.block ≠ g ∧ va.ownBlock ≠ some ad.block
  pa : PA w a n c l
  gB : B ≤ g
section
variable {B : Nat} {a : Option Addr} {n c : Nat} {l : List ByteArray} {gone long : ByteArray} {g : Nat} {w w' : World} {F : Nat → Prop} {A : List ByteArray}
theorem FlAt.lt (h : FlAt B a n c l gone long g w F A) (k : Nat) (hk : F k) : B ≤ k ∧ k < w.heap.size := by
  obtain ⟨va, hb, hR, hF, hap⟩ := h.ex
  rcases (hF k).1 hk with rfl | h1 | ⟨ad, e, rfl⟩
  · exact ⟨h.gB, hb.lt⟩
  · exact hR.own k h1
  · exact ⟨(hap ad e).1, (hap ad e).2.1⟩
theorem FlAt.chg (h : FlAt B a n c l gone long g w F A) {T : Nat → Prop} (hc : Pk.Chg T w w') (hF : ∀ k, F k → ¬ T k) : FlAt B a n c l gone long g w' F A := by
  obtain ⟨va, hb, hR, hFF, hap⟩ := h.ex
  exact ⟨⟨va, hc.blk hb (hF g ((hFF g).2 (.inl rfl))), hR.chg hc fun k hk => hF k ((hFF k).2 (.inr (.inl hk))), hFF, fun ad e => ⟨(hap ad e).1, Nat.lt_of_lt_of_le (hap ad e).2.1 hc.size, (hap ad e).2.2⟩⟩, h.pa.chg hc fun ad e => hF _ ((hFF _).2 (.inr (.inr ⟨ad, e, rfl⟩))), h.gB⟩
theorem FlAt.here (h : FlAt B a n c l gone long g w F A) (hb : Below w.heap.size w w') : FlAt B a n c l gone long g w' F A :=
  h.chg (Pk.Chg.of_below hb) fun k hk => by have := (h.lt k hk).2; omega
/-- What was asked for grows. -/
theorem FlAt.push {va : Value} (hb : Pk.Blk w g [.slice a n c, .string gone, .string long, va] 46) (hR : TxR B w va A) (hP : PA w a n c l) (hap : ∀ ad, a = some ad → B ≤ ad.block ∧ ad.block < w.heap.size ∧ ad.block ≠ g ∧ va.ownBlock ≠ some ad.block) (hg : B ≤ g)
    {v' : Value} {A' : List ByteArray} (hp : PushedT B w va A' v' w') :
    Pk.Blk w' g [.slice a n c, .string gone, .string long, va] 46 ∧ FlAt B a n c l gone long g (w'.setCell ⟨g, 3, none⟩ v') (fun k => k = g ∨ v'.ownBlock = some k ∨ ∃ ad, a = some ad ∧ ad.block = k) A' := by
  have hvg : va.ownBlock ≠ some g := Pk.Row.apart (hR.base (Nat.zero_le _)) hb (by decide)
  have hb' := hp.chg.blk hb fun e => hvg e
  have hvg' : v'.ownBlock ≠ some g := Pk.Row.apart (hp.row.base (Nat.zero_le _)) hb' (by decide)
  have hs : Pk.Chg (fun k => k = g) w' (w'.setCell ⟨g, 3, none⟩ v') := (Pk.Chg.refl (fun k => k = g) w').setCell (p := ⟨g, 3, none⟩) rfl v'
  refine ⟨hb', ⟨⟨v', hb'.setCell 3 v', hp.row.chg hs fun k hk e => hvg' (by rw [hk, e]), fun k => Iff.rfl, fun ad e => ⟨(hap ad e).1, Nat.lt_of_lt_of_le (hap ad e).2.1 (Nat.le_trans hp.chg.size hs.size), (hap ad e).2.2.1, fun h1 => ?_⟩⟩, (hP.chg hp.chg fun ad e => (hap ad e).2.2.2).chg hs fun ad e => (hap ad e).2.2.1, hg⟩⟩
  rcases hp.place _ h1 with h2 | h2
  · exact (hap ad e).2.2.2 h2
  · have := (hap ad e).2.1; omega
end
/-- What File answers of a tile's path. -/
def filT (l : List ByteArray) (gone long : ByteArray) (t : Tl) : ByteArray × Int :=
  if tlp t = gone then (ByteArray.empty, 15) else (if tlp t = long then makT l t.L t.I t.W ++ ⟨#[120]⟩ else makT l t.L t.I t.W, makE l t.L t.I t.W)
theorem tlok {t : Tl} (h : TlOk t) : okT t.L t.I t.W = true := okT_iff.2 (by obtain ⟨h1, h2, h3, h4⟩ := h; omega)
theorem tlp_size {t : Tl} (h : TlOk t) : (tlp t).size ≤ 100 := by
  have ho := tlok h
  obtain ⟨h1, h2, h3, h4⟩ := h
  have s1 := txN_size (t.L : Int) (by omega) (by omega)
  have s2 := txN_size (t.I : Int) (by omega) (by omega)
  have s3 := txN_size (t.W : Int) (by omega) (by omega)
  unfold tlp pathT
  rw [if_pos ho]
  split
  · rw [ByteArray.size_append, ByteArray.size_append, ByteArray.size_append, ByteArray.size_append, ByteArray.size_append, show sTile.size = 5 from rfl, show sBar.size = 1 from rfl, show sPart.size = 3 from rfl]; omega
  · rw [ByteArray.size_append, ByteArray.size_append, ByteArray.size_append, show sTile.size = 5 from rfl, show sBar.size = 1 from rfl]; omega
theorem tl_eq (a b : ByteArray) : (a.toList == b.toList) = decide (a = b) := by
  by_cases h : a = b
  · subst h; simp
  · have : ¬ a.toList = b.toList := fun e => h (ba_ext (by rw [← ByteArray.toList_eq, ← ByteArray.toList_eq]; exact e))
    simp [h, this]
theorem makT_size {l : List ByteArray} (h : Fit l) (t : Tl) (ht : TlOk t) : (makT l t.L t.I t.W).size ≤ 280000000000000 := by
  unfold makT
  split
  · have := makeT_size h (Int.toNat t.L) (Int.toNat t.I) (Int.toNat t.W)
    obtain ⟨_, _, _, h4⟩ := ht
    simp only [Int.toNat_natCast] at *
    have h5 : t.W * 70000000000000 ≤ 4 * 70000000000000 := Nat.mul_le_mul_right _ h4
    omega
  · decide
set_option maxHeartbeats 6400000 in
set_option maxRecDepth 100000 in
theorem file_any (B : Nat) (a : Option Addr) (n c : Nat) (l : List ByteArray) (gone long : ByteArray) (g : Nat) (w : World) (F : Nat → Prop) (A : List ByteArray) (t : Tl) (h : FlAt B a n c l gone long g w F A) (hL : Ld B w) (hB : B ≤ w.heap.size) (ht : TlOk t) (hA : A.length ≤ 200000) (hF : Fit l) (hn : n ≤ 100000) :
    Calls Tryd.prog 137 #[.pointer (some ⟨g, 0, none⟩), .string (tlp t)] w fun e w' => e = .returned (.tuple #[.string (filT l gone long t).1, .int .i64 (filT l gone long t).2]) ∧ ∃ F', FlAt B a n c l gone long g w' F' (A ++ [tlp t]) ∧ Pk.Chg F w w' ∧ ∀ k, F' k → F k ∨ w.heap.size ≤ k := by
  obtain ⟨va, hb, hR, hFF, hap⟩ := h.ex
  have hPA := h.pa
  have hgB := h.gB
  obtain ⟨ba, bc, rfl⟩ := hR.shape
  have c3 := hb.cell 3
  simp only [List.getElem?_cons_zero, List.getElem?_cons_succ] at c3
  have hps := tlp_size ht
  have hpar : parV (tlp t).data.toList = .tuple #[tlv t, .int .i64 0] := by unfold parV tlp; rw [parse_path _ _ _ (tlok ht)]; rfl
  have hX : filT l gone long t = if tlp t = gone then (ByteArray.empty, 15) else (if tlp t = long then makT l t.L t.I t.W ++ ⟨#[120]⟩ else makT l t.L t.I t.W, makE l t.L t.I t.W) := rfl
  have hms := makT_size hF t ht
  obtain ⟨X, hXe⟩ : ∃ X, filT l gone long t = X := ⟨_, rfl⟩
  rw [hXe] at hX ⊢
  have hMk := fun w' (hb : Below w.heap.size w w') hP' => dmake_any l t.L t.I t.W n a c w' hP' hF (by omega)
  have hPr := fun w' (hL' : Ld B w') (hB' : B ≤ w'.heap.size) => dparse_any (tlp t) B w' hL' hB' (by omega)
  obtain ⟨p, hp⟩ : ∃ p, tlp t = p := ⟨_, rfl⟩
  rw [hp] at hX hPr hpar hps ⊢
  rw [hpar] at hPr
  unfold tlv tv at hPr
  unfold tv at hMk
  obtain ⟨T, hTe⟩ : ∃ T, makT l t.L t.I t.W = T := ⟨_, rfl⟩
  obtain ⟨E, hEe⟩ : ∃ E, makE l t.L t.I t.W = E := ⟨_, rfl⟩
  rw [hTe, hEe] at hX hMk
  rw [hTe] at hms
  have hal := bel_alloc w (.cells #[.string p] 9)
  have hb1 := Box.mk ((hal.block _ hb.lt).trans hb)
  have hR1 := Box.mk (hR.here hal)
  have hPA1 := Box.mk (hPA.here hal)
  have hap1 := Box.mk (fun ad (e : a = some ad) => (show B ≤ ad.block ∧ ad.block < (w.alloc (.cells #[.string p] 9)).heap.size ∧ ad.block ≠ g ∧ (Value.slice ba A.length bc).ownBlock ≠ some ad.block from ⟨(hap ad e).1, Nat.lt_of_lt_of_le (hap ad e).2.1 hal.size, (hap ad e).2.2⟩))
  have hgB1 := Box.mk hgB
  replace hL := Box.mk hL
  replace hMk := Box.mk hMk
  replace hPr := Box.mk hPr
  replace hX := Box.mk hX
  replace hFF := Box.mk hFF
  replace h := Box.mk h
  replace hal := Box.mk hal
  have hqg := tl_eq p gone
  have hql := tl_eq p long
  replace hqg := Box.mk hqg
  replace hql := Box.mk hql
  replace hTe := Box.mk hTe
  replace hEe := Box.mk hEe
  clear hR hPA hap hgB hb hpar hp hXe
  go_enter Tryd.func137, Tryd.ntmps137
  go_wp2_with (at_builtin; refine wpList_pushT rfl (.tmp 13) (.tmp 15) rfl B _ A [p] rfl hR1.out (Nat.le_trans hB hal.out.size) (some ⟨w.heap.size, 0, none⟩) 1 1 rfl rfl (parts_new w [p] 9) (by omega) ?_)
  rintro v' w5 hp5
  obtain ⟨hb5, hFl⟩ := FlAt.push (l := l) hb1.out hR1.out hPA1.out hap1.out hgB1.out hp5
  have c3b := hb5.cell 3
  have f3b := hb5.free 3
  have c1b := hb5.cell 1
  simp only [List.getElem?_cons_zero, List.getElem?_cons_succ] at c3b c1b
  have hc1 : Pk.Chg F w w5 := ((Pk.Chg.of_below hal.out).mono (T := F) fun i hi e => absurd hi (by omega)).trans hp5.chg fun i hi e => (hFF.out i).2 (.inr (.inl e))
  have hfr : Pk.Chg F w (w5.setCell ⟨g, 3, none⟩ v') := hc1.trans ((Pk.Chg.refl (fun k => k = g) w5).setCell (p := ⟨g, 3, none⟩) rfl v') fun i hi e => (hFF.out i).2 (.inl e)
  have hft : ∀ k, (k = g ∨ v'.ownBlock = some k ∨ ∃ ad, a = some ad ∧ ad.block = k) → F k ∨ w.heap.size ≤ k := fun k hk => by
    rcases hk with h1 | h1 | h1
    · exact .inl ((hFF.out k).2 (.inl h1))
    · rcases hp5.place k h1 with h2 | h2
      · exact .inl ((hFF.out k).2 (.inr (.inl h2)))
      · exact .inr (Nat.le_trans hal.out.size h2)
    · exact .inl ((hFF.out k).2 (.inr (.inr h1)))
  obtain ⟨na, nc, rfl⟩ := hp5.row.shape
  obtain ⟨F', hF'e⟩ : ∃ F' : Nat → Prop, (fun k => k = g ∨ (Value.slice na (A ++ [p]).length nc).ownBlock = some k ∨ ∃ ad, a = some ad ∧ ad.block = k) = F' := ⟨_, rfl⟩
  rw [hF'e] at hFl
  replace hft : ∀ k, F' k → F k ∨ w.heap.size ≤ k := by rw [← hF'e]; exact hft
  obtain ⟨Lq, hLq⟩ : ∃ q, (A ++ [p]).length = q := ⟨_, rfl⟩
  rw [hLq] at hFl hfr ⊢
  obtain ⟨wS, hwS⟩ : ∃ wS, w5.setCell ⟨g, 3, none⟩ (.slice na Lq nc) = wS := ⟨_, rfl⟩
  rw [hwS] at hFl hfr
  have hLS := Box.mk (hL.out.below (hfr.below hB fun i hi => (h.out.lt i hi).1))
  have hBS := Box.mk (Nat.le_trans hB hfr.size)
  have hwP := fun w' (hb : Below wS.heap.size wS w') => hFl.here hb
  replace hFl := Box.mk hFl
  replace hfr := Box.mk hfr
  replace hft := Box.mk hft
  replace hwP := Box.mk hwP
  have hMk2 := fun w' (hb : Below wS.heap.size wS w') => dmake_any l t.L t.I t.W n a c w' (hwP.out w' hb).pa hF (by omega)
  rw [hTe.out, hEe.out] at hMk2
  unfold tv at hMk2
  replace hMk2 := Box.mk hMk2
  replace hwS := Box.mk hwS
  clear hp5 hc1 hb5 hR1 hPA1 hap1 hgB1 hLq hF'e hMk hL h hal hFF c3
  by_cases hpg : p = gone
  · have hq : (p.toList == gone.toList) = true := by rw [hqg.out]; simpa using hpg
    have hXv := Box.mk (hX.out.trans (if_pos hpg))
    replace hpg := Box.mk hpg
    clear hX hqg hql hPr hMk2 hwP hLS
    go_wp2_with fail
    rw [hwS.out]
    go_returns
    exact ⟨by rw [hXv.out]; rfl, F', hFl.out, hfr.out, hft.out⟩
  · have hq : (p.toList == gone.toList) = false := by rw [hqg.out]; simpa using hpg
    have hXv := Box.mk (hX.out.trans (if_neg hpg))
    replace hpg := Box.mk hpg
    clear hX hqg
    go_wp2_with fail
    rw [hwS.out]
    refine (hPr.out wS hLS.out hBS.out).mono ?_
    rintro e w6 ⟨rfl, hb6⟩
    replace hb6 := Box.mk hb6
    clear hPr hwS c3b c1b f3b
    go_wp2_with fail
    have hbx := Box.mk (Box3.of (x := .int .i64 (t.L : Int)) (y := .int .i64 (t.I : Int)) (z := .int .i64 (t.W : Int)) (t := 26) (w := w6) (w1 := w6.alloc (.cells #[.int .i64 (t.L : Int), .int .i64 (t.I : Int), .int .i64 (t.W : Int)] 26)) rfl (Below.refl _ _))
    obtain ⟨w7, hw7⟩ : ∃ w7, w6.alloc (.cells #[.int .i64 (t.L : Int), .int .i64 (t.I : Int), .int .i64 (t.W : Int)] 26) = w7 := ⟨_, rfl⟩
    have hb7 := mono_bel hb6.out (bel_alloc w6 (.cells #[.int .i64 (t.L : Int), .int .i64 (t.I : Int), .int .i64 (t.W : Int)] 26)) (Nat.le_refl _)
    rw [hw7] at hbx hb7
    simp only [hw7]
    have hb7' := Box.mk (fun w' (hb : Below w7.heap.size w7 w') => mono_bel hb7 hb (Nat.le_refl _))
    have k0 : Box (∀ w', Below w7.heap.size w7 w' → w'.cell? ⟨g, 0, none⟩ = some (.slice a n c)) := ⟨fun w' hb => by
      obtain ⟨vb, hbS, _, _, _⟩ := (hwP.out w' (hb7'.out w' hb)).ex
      exact hbS.cell 0⟩
    clear hb6
    refine region_quiet (fun w' => Below w7.heap.size w7 w') (by kernel_rfl) (by kernel_rfl) (dB _) ?_
    repeat (go_big_quiet_step (first | exact fun _ => rfl | rfl))
    refine quiet_val rfl (.slice a n c) (fun w' hw' => by have h3 := k0.out w' hw'; go_simp) ?_
    simp only [Act.put, List.setIfInBounds_toArray, List.set_cons_succ, List.set_cons_zero]
    repeat (go_big_quiet_step (first | exact fun _ => rfl | rfl))
    refine quiet_val rfl (.agg #[.int .i64 (t.L : Int), .int .i64 (t.I : Int), .int .i64 (t.W : Int)]) (fun w' hw' => by obtain ⟨h3, h4, h5⟩ := hbx.out w' hw'; go_simp) ?_
    simp only [Act.put, List.setIfInBounds_toArray, List.set_cons_succ, List.set_cons_zero]
    repeat (go_big_quiet_step (first | exact fun _ => rfl | rfl))
    refine quiet_call rfl (.tuple #[.string T, .int .i64 E]) (fun w' hw' => bel_call (hMk2.out w' (hb7'.out w' hw')) hw') (fun w' _ => by go_simp) ?_
    simp only [Act.put, List.setIfInBounds_toArray, List.set_cons_succ, List.set_cons_zero]
    repeat (go_big_quiet_step (first | exact fun _ => rfl | rfl))
    refine wpQuiet_nil ?_
    intro w8 hw8
    have hb8 := Box.mk (hb7'.out w8 hw8)
    obtain ⟨vb, hbS, _, _, _⟩ := (hwP.out w8 hb8.out).ex
    have e2 := hbS.cell 2
    simp only [List.getElem?_cons_zero, List.getElem?_cons_succ] at e2
    clear hbS hw8 k0 hbx hMk2 hwP hb7'
    by_cases hpl : p = long
    · have hq2 : (p.toList == long.toList) = true := by rw [hql.out]; simpa using hpl
      have hXw := Box.mk (hXv.out.trans (by rw [if_pos hpl] : _ = (T ++ ⟨#[120]⟩, E)))
      replace hpl := Box.mk hpl
      clear hXv hql
      go_wp2_with fail
      go_returns
      exact ⟨by rw [hXw.out]; rfl, F', hFl.out.here hb8.out, hfr.out.trans (Pk.Chg.of_below hb8.out) fun i hi e => by have := hfr.out.size; omega, hft.out⟩
    · have hq2 : (p.toList == long.toList) = false := by rw [hql.out]; simpa using hpl
      have hXw := Box.mk (hXv.out.trans (by rw [if_neg hpl] : _ = (T, E)))
      replace hpl := Box.mk hpl
      clear hXv hql
      go_wp2_with fail
      go_returns
      exact ⟨by rw [hXw.out]; rfl, F', hFl.out.here hb8.out, hfr.out.trans (Pk.Chg.of_below hb8.out) fun i hi e => by have := hfr.out.size; omega, hft.out⟩
end Go.Proofs.YtlkopllpadhnlaaDoor

namespace Go.Proofs.YtlkopllpadhnlaaDoor
open Go Go.RowKit

def askT (f : ByteArray × Int) (t : Tl) : ByteArray × Int := if f.2 ≠ 0 then (ByteArray.empty, f.2) else if f.1.size = 32 * t.W then (f.1, 0) else (ByteArray.empty, 3)
theorem askT_size (f : ByteArray × Int) (t : Tl) (h : (askT f t).2 = 0) : (askT f t).1.size = 32 * t.W := by
  unfold askT at *
  by_cases h1 : f.2 ≠ 0
  · rw [if_pos h1] at h; exact absurd h h1
  · rw [if_neg h1] at h ⊢
    by_cases h2 : f.1.size = 32 * t.W
    · rw [if_pos h2]; exact h2
    · rw [if_neg h2] at h; exact absurd h (by decide)
theorem askT_none (f : ByteArray × Int) (t : Tl) (h : (askT f t).2 ≠ 0) : (askT f t).1 = ByteArray.empty := by
  unfold askT at *
  by_cases h1 : f.2 ≠ 0
  · rw [if_pos h1]
  · rw [if_neg h1] at h ⊢
    by_cases h2 : f.1.size = 32 * t.W
    · rw [if_pos h2] at h; exact absurd rfl h
    · rw [if_neg h2]
/-- What ask reads of its own. -/
def AskB (B : Nat) (t : Tl) (b : Nat) (w : World) : Prop := TBc b t w ∧ Ld B w ∧ B ≤ w.heap.size
/-- On the way of ask: its tile's box, the source, what has changed. -/
structure AskC (B : Nat) (I : World → (Nat → Prop) → Prop) (t : Tl) (w0 : World) (F0 : Nat → Prop) (w : World) : Prop where
  bx : TBx w0.heap.size t w
  ld : Ld B w
  sz : B ≤ w.heap.size
  ex : ∃ F, I w F ∧ Pk.Chg F0 w0 w ∧ ∀ k, F k → F0 k ∨ w0.heap.size < k
theorem AskC.base {B : Nat} {I : World → (Nat → Prop) → Prop} {t : Tl} {w0 w : World} {F0 : Nat → Prop} (h : AskC B I t w0 F0 w) : AskB B t w0.heap.size w := ⟨h.bx.cells, h.ld, h.sz⟩
theorem AskC.on {B : Nat} {I : World → (Nat → Prop) → Prop} {t : Tl} {w0 w w' : World} {F0 : Nat → Prop} (h : AskC B I t w0 F0 w) (hI : ∀ w w' F, I w F → Below w.heap.size w w' → I w' F) (hb : Below w.heap.size w w') : AskC B I t w0 F0 w' := by
  obtain ⟨F, h1, h2, h3⟩ := h.ex
  have := Pk.Blk.lt h.bx
  exact ⟨h.bx.on hb, h.ld.here hb h.sz, Nat.le_trans h.sz hb.size, F, hI _ _ _ h1 hb, h2.trans (Pk.Chg.of_below hb) fun i hi e => by omega, h3⟩
set_option maxHeartbeats 6400000 in
set_option maxRecDepth 100000 in
theorem askF_any (I0 I1 : World → (Nat → Prop) → Prop) (hI0 : ∀ w w' F, I0 w F → Below w.heap.size w w' → I0 w' F) (hI1 : ∀ w w' F, I1 w F → Below w.heap.size w w' → I1 w' F) (B : Nat) (g : Nat) (X : ByteArray × Int) (t : Tl)
    (hInv : ∀ (w : World) (F : Nat → Prop), Ld B w → B ≤ w.heap.size → I0 w F → Calls Tryd.prog 137 #[.pointer (some ⟨g, 0, none⟩), .string (tlp t)] w fun e w' => e = .returned (.tuple #[.string X.1, .int .i64 X.2]) ∧ ∃ F', I1 w' F' ∧ Pk.Chg F w w' ∧ ∀ k, F' k → F k ∨ w.heap.size ≤ k)
    (w : World) (F : Nat → Prop) (hL : Ld B w) (hB : B ≤ w.heap.size) (ht : TlOk t) (hI : I0 w F) (hlt : ∀ k, F k → B ≤ k ∧ k < w.heap.size) (hfs : X.1.size ≤ 140737488355328000) :
    Calls Tryd.prog 103 #[.iface 44 (.pointer (some ⟨g, 0, none⟩)), tlv t] w fun e w' => e = .returned (.tuple #[.string (askT X t).1, .int .i64 (askT X t).2]) ∧ ∃ F', I1 w' F' ∧ Pk.Chg F w w' ∧ ∀ k, F' k → F k ∨ w.heap.size ≤ k := by
  have hal := bel_alloc w (.cells #[.int .i64 (t.L : Int), .int .i64 (t.I : Int), .int .i64 (t.W : Int)] 23)
  have hb0 : TBx w.heap.size t (w.alloc (.cells #[.int .i64 (t.L : Int), .int .i64 (t.I : Int), .int .i64 (t.W : Int)] 23)) := Pk.Blk.new w _ _
  have hPath := fun w' (h : AskB B t w.heap.size w') => path_any t.L t.I t.W B w' h.2.1 h.2.2
  have hX : askT X t = if X.2 ≠ 0 then (ByteArray.empty, X.2) else if X.1.size = 32 * t.W then (X.1, 0) else (ByteArray.empty, 3) := rfl
  obtain ⟨Y, hY⟩ : ∃ Y, askT X t = Y := ⟨_, rfl⟩
  rw [hY] at hX ⊢
  obtain ⟨x, er⟩ := X
  simp only at hX hInv hfs
  have hC0 : AskC B I0 t w F (w.alloc (.cells #[.int .i64 (t.L : Int), .int .i64 (t.I : Int), .int .i64 (t.W : Int)] 23)) := ⟨hb0, hL.here hal hB, Nat.le_trans hB hal.size, F, hI0 _ _ _ hI hal, (Pk.Chg.of_below hal).mono fun i hi e => absurd hi (by omega), fun k hk => .inl hk⟩
  have hW4 := ht.2.2.2
  rw [show (pathT t.L t.I t.W) = tlp t from rfl] at hPath
  obtain ⟨p, hp⟩ : ∃ p, tlp t = p := ⟨_, rfl⟩
  rw [hp] at hPath hInv
  unfold tv at hPath
  replace hInv := Box.mk hInv
  replace hPath := Box.mk hPath
  replace hC0 := Box.mk hC0
  replace hX := Box.mk hX
  replace hlt := Box.mk hlt
  clear hL ht hI hal hb0 hY hp
  unfold tlv tv
  go_enter Tryd.func103, Tryd.ntmps103
  go_wp2_with fail
  refine region_steadyD (AskB B t w.heap.size) (AskC B I0 t w F) (fun w w' => Below w.heap.size w w') rfl (hC0.out.on hI0 (dB _)) ?_
  have hst : Box (St (AskB B t w.heap.size) (fun w w' => Below w.heap.size w w') (AskC B I0 t w F)) := ⟨fun w' h => h.base, fun w1 w2 h1 h2 => h1.on hI0 h2⟩
  have hst1 : Box (St (AskB B t w.heap.size) (fun w w' => Below w.heap.size w w') (AskC B I1 t w F)) := ⟨fun w' h => h.base, fun w1 w2 h1 h2 => h1.on hI1 h2⟩
  clear hC0
  refine anyS_calms [0, 1] 10 rfl (fun w => Below.refl _ w) hst.out (by kernel_rfl) (by kernel_rfl) (by kernel_rfl) ?_
  simp [nth]
  try simp only [Act.put, List.setIfInBounds_toArray, List.set_cons_succ, List.set_cons_zero]
  repeat (go_big_quiet_step (first | exact fun _ => rfl | rfl))
  refine quiet_val rfl (.agg #[.int .i64 (t.L : Int), .int .i64 (t.I : Int), .int .i64 (t.W : Int)]) (fun w' hw' => by obtain ⟨h3, h4, h5⟩ := hw'.1; go_simp) ?_
  simp only [Act.put, List.setIfInBounds_toArray, List.set_cons_succ, List.set_cons_zero]
  repeat (go_big_quiet_step (first | exact fun _ => rfl | rfl))
  refine wpQuiet_nil ?_
  refine anyS_call 2 (.string p) (fun w => Below.refl _ w) hst.out (by kernel_rfl) rfl (by kernel_rfl) (by kernel_rfl) rfl (fun w' hw' => hPath.out w' hw') (fun w' _ => by go_simp) ?_
  simp only [Act.put, List.setIfInBounds_toArray]
  refine anyS_forced 3 (by kernel_rfl) rfl rfl (fun wa hWa K hK => ?_)
  go_simp
  refine hK _ _ (AskC B I0 t w F) hst.out hWa ?_
  clear hK K hWa
  refine anyS_forced 4 (by kernel_rfl) rfl rfl (fun wa hWa K hK => ?_)
  go_simp
  refine hK _ _ (AskC B I0 t w F) hst.out hWa ?_
  clear hK K hWa
  refine anyS_forced 5 (by kernel_rfl) rfl rfl (fun wa hWa K hK => ?_)
  go_simp
  refine hK _ _ (AskC B I0 t w F) hst.out hWa ?_
  clear hK K hWa
  refine anyS_forced 6 (by kernel_rfl) rfl rfl (fun wa hWa K hK => ?_)
  obtain ⟨F1, hi1, hc1, hf1⟩ := hWa.ex
  have hCl := hInv.out wa F1 hWa.ld hWa.sz hi1
  go_simp
  try go_invoke
  go_simp
  refine hCl.mono ?_
  clear hCl
  rintro e wb ⟨rfl, F2, hi2, hc2, hf2⟩
  have hsz0 := Pk.Blk.lt hWa.bx
  have hC2 : AskC B I1 t w F wb := ⟨hc2.blk hWa.bx fun e => by
      rcases hf1 _ e with h1 | h1
      · have := (hlt.out _ h1).2; omega
      · omega, hWa.ld.below (hc2.below hWa.sz fun i hi => by
      rcases hf1 _ hi with h1 | h1
      · exact (hlt.out _ h1).1
      · omega), Nat.le_trans hWa.sz hc2.size, F2, hi2, hc1.trans hc2 fun i hi e => by
      rcases hf1 _ e with h1 | h1
      · exact h1
      · omega, fun k hk => by
      rcases hf2 k hk with h1 | h1
      · exact hf1 k h1
      · exact .inr (by omega)⟩
  refine hK _ _ (AskC B I1 t w F) hst1.out hC2 ?_
  clear hK K hWa hi1 hc1 hf1 hi2 hc2 hf2 hC2 hst hInv hPath
  refine anyS_calms [7, 8, 9, 10, 11] 0 rfl (fun w => Below.refl _ w) hst1.out (by kernel_rfl) (by kernel_rfl) (by kernel_rfl) ?_
  simp [nth]
  try simp only [Act.put, List.setIfInBounds_toArray, List.set_cons_succ, List.set_cons_zero]
  repeat (go_big_quiet_step (first | exact fun _ => rfl | rfl))
  refine wpQuiet_nil ?_
  refine anyS_done (by kernel_rfl) (fun wc hC => ?_)
  have k2 := hC.bx.cells.2.2
  have hfin : Box (∃ F', I1 wc F' ∧ Pk.Chg F w wc ∧ ∀ k, F' k → F k ∨ w.heap.size ≤ k) := ⟨by
    obtain ⟨F3, h1, h2, h3⟩ := hC.ex
    exact ⟨F3, h1, h2, fun k hk => (h3 k hk).imp id fun h => Nat.le_of_lt h⟩⟩
  clear hC hst1
  by_cases he : er = 0
  · subst he
    by_cases hs : x.size = 32 * t.W
    · have hXv : Box (Y = (x, 0)) := ⟨by rw [hX.out, if_neg (by simp), if_pos hs]⟩
      have hs1 : ((x.size : Int) != (t.W : Int) * 32) = false := by simp; omega
      clear hX hs
      go_wp2_with fail
      go_returns
      exact ⟨by rw [hXv.out]; rfl, hfin.out⟩
    · have hXv : Box (Y = (ByteArray.empty, 3)) := ⟨by rw [hX.out, if_neg (by simp), if_neg hs]⟩
      have hs1 : ((x.size : Int) != (t.W : Int) * 32) = true := by simp; omega
      clear hX hs
      go_wp2_with fail
      go_returns
      exact ⟨by rw [hXv.out]; rfl, hfin.out⟩
  · have hXv : Box (Y = (ByteArray.empty, er)) := ⟨by rw [hX.out, if_pos he]⟩
    have heb : (er != 0) = true := by simpa using he
    clear hX
    go_wp2_with fail
    go_returns
    exact ⟨by rw [hXv.out]; rfl, hfin.out⟩
set_option maxHeartbeats 6400000 in
set_option maxRecDepth 100000 in
theorem askW_any (I0 I1 : World → (Nat → Prop) → Prop) (hI0 : ∀ w w' F, I0 w F → Below w.heap.size w w' → I0 w' F) (hI1 : ∀ w w' F, I1 w F → Below w.heap.size w w' → I1 w' F) (B : Nat) (g : Nat) (X : ByteArray × Int) (t : Tl)
    (hInv : ∀ (w : World) (F : Nat → Prop), Ld B w → B ≤ w.heap.size → I0 w F → Calls Tryd.prog 138 #[.pointer (some ⟨g, 0, none⟩), .string (tlp t)] w fun e w' => e = .returned (.tuple #[.string X.1, .int .i64 X.2]) ∧ ∃ F', I1 w' F' ∧ Pk.Chg F w w' ∧ ∀ k, F' k → F k ∨ w.heap.size ≤ k)
    (w : World) (F : Nat → Prop) (hL : Ld B w) (hB : B ≤ w.heap.size) (ht : TlOk t) (hI : I0 w F) (hlt : ∀ k, F k → B ≤ k ∧ k < w.heap.size) (hfs : X.1.size ≤ 140737488355328000) :
    Calls Tryd.prog 103 #[.iface 59 (.pointer (some ⟨g, 0, none⟩)), tlv t] w fun e w' => e = .returned (.tuple #[.string (askT X t).1, .int .i64 (askT X t).2]) ∧ ∃ F', I1 w' F' ∧ Pk.Chg F w w' ∧ ∀ k, F' k → F k ∨ w.heap.size ≤ k := by
  have hal := bel_alloc w (.cells #[.int .i64 (t.L : Int), .int .i64 (t.I : Int), .int .i64 (t.W : Int)] 23)
  have hb0 : TBx w.heap.size t (w.alloc (.cells #[.int .i64 (t.L : Int), .int .i64 (t.I : Int), .int .i64 (t.W : Int)] 23)) := Pk.Blk.new w _ _
  have hPath := fun w' (h : AskB B t w.heap.size w') => path_any t.L t.I t.W B w' h.2.1 h.2.2
  have hX : askT X t = if X.2 ≠ 0 then (ByteArray.empty, X.2) else if X.1.size = 32 * t.W then (X.1, 0) else (ByteArray.empty, 3) := rfl
  obtain ⟨Y, hY⟩ : ∃ Y, askT X t = Y := ⟨_, rfl⟩
  rw [hY] at hX ⊢
  obtain ⟨x, er⟩ := X
  simp only at hX hInv hfs
  have hC0 : AskC B I0 t w F (w.alloc (.cells #[.int .i64 (t.L : Int), .int .i64 (t.I : Int), .int .i64 (t.W : Int)] 23)) := ⟨hb0, hL.here hal hB, Nat.le_trans hB hal.size, F, hI0 _ _ _ hI hal, (Pk.Chg.of_below hal).mono fun i hi e => absurd hi (by omega), fun k hk => .inl hk⟩
  have hW4 := ht.2.2.2
  rw [show (pathT t.L t.I t.W) = tlp t from rfl] at hPath
  obtain ⟨p, hp⟩ : ∃ p, tlp t = p := ⟨_, rfl⟩
  rw [hp] at hPath hInv
  unfold tv at hPath
  replace hInv := Box.mk hInv
  replace hPath := Box.mk hPath
  replace hC0 := Box.mk hC0
  replace hX := Box.mk hX
  replace hlt := Box.mk hlt
  clear hL ht hI hal hb0 hY hp
  unfold tlv tv
  go_enter Tryd.func103, Tryd.ntmps103
  go_wp2_with fail
  refine region_steadyD (AskB B t w.heap.size) (AskC B I0 t w F) (fun w w' => Below w.heap.size w w') rfl (hC0.out.on hI0 (dB _)) ?_
  have hst : Box (St (AskB B t w.heap.size) (fun w w' => Below w.heap.size w w') (AskC B I0 t w F)) := ⟨fun w' h => h.base, fun w1 w2 h1 h2 => h1.on hI0 h2⟩
  have hst1 : Box (St (AskB B t w.heap.size) (fun w w' => Below w.heap.size w w') (AskC B I1 t w F)) := ⟨fun w' h => h.base, fun w1 w2 h1 h2 => h1.on hI1 h2⟩
  clear hC0
  refine anyS_calms [0, 1] 10 rfl (fun w => Below.refl _ w) hst.out (by kernel_rfl) (by kernel_rfl) (by kernel_rfl) ?_
  simp [nth]
  try simp only [Act.put, List.setIfInBounds_toArray, List.set_cons_succ, List.set_cons_zero]
  repeat (go_big_quiet_step (first | exact fun _ => rfl | rfl))
  refine quiet_val rfl (.agg #[.int .i64 (t.L : Int), .int .i64 (t.I : Int), .int .i64 (t.W : Int)]) (fun w' hw' => by obtain ⟨h3, h4, h5⟩ := hw'.1; go_simp) ?_
  simp only [Act.put, List.setIfInBounds_toArray, List.set_cons_succ, List.set_cons_zero]
  repeat (go_big_quiet_step (first | exact fun _ => rfl | rfl))
  refine wpQuiet_nil ?_
  refine anyS_call 2 (.string p) (fun w => Below.refl _ w) hst.out (by kernel_rfl) rfl (by kernel_rfl) (by kernel_rfl) rfl (fun w' hw' => hPath.out w' hw') (fun w' _ => by go_simp) ?_
  simp only [Act.put, List.setIfInBounds_toArray]
  refine anyS_forced 3 (by kernel_rfl) rfl rfl (fun wa hWa K hK => ?_)
  go_simp
  refine hK _ _ (AskC B I0 t w F) hst.out hWa ?_
  clear hK K hWa
  refine anyS_forced 4 (by kernel_rfl) rfl rfl (fun wa hWa K hK => ?_)
  go_simp
  refine hK _ _ (AskC B I0 t w F) hst.out hWa ?_
  clear hK K hWa
  refine anyS_forced 5 (by kernel_rfl) rfl rfl (fun wa hWa K hK => ?_)
  go_simp
  refine hK _ _ (AskC B I0 t w F) hst.out hWa ?_
  clear hK K hWa
  refine anyS_forced 6 (by kernel_rfl) rfl rfl (fun wa hWa K hK => ?_)
  obtain ⟨F1, hi1, hc1, hf1⟩ := hWa.ex
  have hCl := hInv.out wa F1 hWa.ld hWa.sz hi1
  go_simp
  try go_invoke
  go_simp
  refine hCl.mono ?_
  clear hCl
  rintro e wb ⟨rfl, F2, hi2, hc2, hf2⟩
  have hsz0 := Pk.Blk.lt hWa.bx
  have hC2 : AskC B I1 t w F wb := ⟨hc2.blk hWa.bx fun e => by
      rcases hf1 _ e with h1 | h1
      · have := (hlt.out _ h1).2; omega
      · omega, hWa.ld.below (hc2.below hWa.sz fun i hi => by
      rcases hf1 _ hi with h1 | h1
      · exact (hlt.out _ h1).1
      · omega), Nat.le_trans hWa.sz hc2.size, F2, hi2, hc1.trans hc2 fun i hi e => by
      rcases hf1 _ e with h1 | h1
      · exact h1
      · omega, fun k hk => by
      rcases hf2 k hk with h1 | h1
      · exact hf1 k h1
      · exact .inr (by omega)⟩
  refine hK _ _ (AskC B I1 t w F) hst1.out hC2 ?_
  clear hK K hWa hi1 hc1 hf1 hi2 hc2 hf2 hC2 hst hInv hPath
  refine anyS_calms [7, 8, 9, 10, 11] 0 rfl (fun w => Below.refl _ w) hst1.out (by kernel_rfl) (by kernel_rfl) (by kernel_rfl) ?_
  simp [nth]
  try simp only [Act.put, List.setIfInBounds_toArray, List.set_cons_succ, List.set_cons_zero]
  repeat (go_big_quiet_step (first | exact fun _ => rfl | rfl))
  refine wpQuiet_nil ?_
  refine anyS_done (by kernel_rfl) (fun wc hC => ?_)
  have k2 := hC.bx.cells.2.2
  have hfin : Box (∃ F', I1 wc F' ∧ Pk.Chg F w wc ∧ ∀ k, F' k → F k ∨ w.heap.size ≤ k) := ⟨by
    obtain ⟨F3, h1, h2, h3⟩ := hC.ex
    exact ⟨F3, h1, h2, fun k hk => (h3 k hk).imp id fun h => Nat.le_of_lt h⟩⟩
  clear hC hst1
  by_cases he : er = 0
  · subst he
    by_cases hs : x.size = 32 * t.W
    · have hXv : Box (Y = (x, 0)) := ⟨by rw [hX.out, if_neg (by simp), if_pos hs]⟩
      have hs1 : ((x.size : Int) != (t.W : Int) * 32) = false := by simp; omega
      clear hX hs
      go_wp2_with fail
      go_returns
      exact ⟨by rw [hXv.out]; rfl, hfin.out⟩
    · have hXv : Box (Y = (ByteArray.empty, 3)) := ⟨by rw [hX.out, if_neg (by simp), if_neg hs]⟩
      have hs1 : ((x.size : Int) != (t.W : Int) * 32) = true := by simp; omega
      clear hX hs
      go_wp2_with fail
      go_returns
      exact ⟨by rw [hXv.out]; rfl, hfin.out⟩
  · have hXv : Box (Y = (ByteArray.empty, er)) := ⟨by rw [hX.out, if_pos he]⟩
    have heb : (er != 0) = true := by simpa using he
    clear hX
    go_wp2_with fail
    go_returns
    exact ⟨by rw [hXv.out]; rfl, hfin.out⟩
end Go.Proofs.YtlkopllpadhnlaaDoor
