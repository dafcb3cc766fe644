/- Bills read: Read of the document. -/
import Derived.Test.YtdnhpldcnmbncaaDoorMBc
namespace Go.Proofs.YtdnhpldcnmbncaaDoor.Bi
open Go Go.RowKit Go.Proofs.YtdnhpldcnmbncaaDoor
set_option linter.all false

theorem RX.push {w0 w w2 : World} {tR : TypeId} {r rb g : Nat} {v s c : Int} {h t : ByteArray} {x x' : Value} {L L' : List ByteArray} {l : List UInt8} {e : Int} (hX : RX w0 tR r rb g v s c h t x L l e w) (hp : PushedT w0.heap.size w x L' x' w2) :
    BAt w2 g v s c h t x ∧ RX w0 tR r rb g v s c h t x' L' l e (w2.setCell ⟨g, 5, none⟩ x') := by
  have hg2 : BAt w2 g v s c h t x := hp.chg.blk hX.bill fun e => hX.apart.1 e
  have hv2 : x'.ownBlock ≠ some g := Pk.Row.apart (hp.row.base (Nat.zero_le _)) hg2 (by decide)
  have hc : Pk.Chg (fun i => i = g) w2 (w2.setCell ⟨g, 5, none⟩ x') := (Pk.Chg.refl (fun i => i = g) w2).setCell (p := ⟨g, 5, none⟩) rfl x'
  have hbel : Below w0.heap.size w0 w2 := hp.bel hX.bel hX.row
  exact ⟨hg2, hc.blk (hp.chg.blk hX.res fun e => hX.apart.2.1 e) hX.ne1, hc.blk (hp.chg.blk hX.rd fun e => hX.apart.2.2 e) (fun e => hX.ne3 e.symm), Pk.Blk.setCell hg2 5 x', hp.row.chg hc fun k hk e => hv2 (by rw [hk, e]), hX.ne1, hX.ne2, hX.ne3, hX.b1, hX.b2, hX.b3, hX.ht, hbel.trans (hc.below hbel.size fun _ hi => hi ▸ hX.b3)⟩
def lenC : Option Value → Nat
  | some (.slice _ n _) => n
  | _ => 0
set_option maxHeartbeats 12800000 in
set_option maxRecDepth 100000 in
theorem rread_any (x : ByteArray) (w : World) :
    Calls Tryd.prog 16 #[.string x] w (rdIs x.data.toList w) := by
  have hz : Box (BAt (w.alloc (.cells #[.int .i64 0, .int .i64 0, .int .i64 0, .string ⟨#[]⟩, .string ⟨#[]⟩, .slice none 0 0] 25)) w.heap.size 0 0 0 ⟨#[]⟩ ⟨#[]⟩ (.slice none 0 0)) := ⟨BAt.new w _ _ _ _ _ _⟩
  have hbz := Box.mk (bel_alloc w (.cells #[.int .i64 0, .int .i64 0, .int .i64 0, .string ⟨#[]⟩, .string ⟨#[]⟩, .slice none 0 0] 25))
  obtain ⟨l, hl⟩ : ∃ l, x.data.toList = l := ⟨_, rfl⟩
  rw [hl]
  obtain ⟨d, hd⟩ : ∃ d, hdR l = d := ⟨_, rfl⟩
  have hRI := Box.mk fun w' e => rd_to l d hd w w' e
  obtain ⟨X1, X2, X3, X4, X5, e1, e2, e3, e4, e5, e6⟩ := hd_steps l
  have hdX := hd.symm.trans e6
  clear e6
  obtain ⟨w1, hw1⟩ : ∃ W, w.alloc (.cells #[.int .i64 0, .int .i64 0, .int .i64 0, .string ⟨#[]⟩, .string ⟨#[]⟩, .slice none 0 0] 25) = W := ⟨_, rfl⟩
  rw [hw1] at hz hbz
  obtain ⟨r, hr⟩ : ∃ r, w.heap.size = r := ⟨_, rfl⟩
  rw [hr] at hz
  have hrw := Box.mk hr
  have h1 := Pk.xread_new x w1
  rw [hl] at h1
  have c1 := Box.mk fun b w' hR => Pk.xnumber_any b l 0 1 w' hR (by omega)
  rw [e1] at c1
  have c2 := Box.mk fun b w' hR => Pk.xnumber_any b X1.2.1 X1.2.2 4 w' hR (by omega)
  rw [e2] at c2
  have c3 := Box.mk fun b w' hR => Pk.xnumber_any b X2.2.1 X2.2.2 2 w' hR (by omega)
  rw [e3] at c3
  have c4 := Box.mk fun b w' hR => Pk.xraw_any b X3.2.1 X3.2.2 32 w' hR
  rw [e4] at c4
  have c5 := Box.mk fun b w' hR => Pk.xraw_any b X4.2.1 X4.2.2 32 w' hR
  rw [e5] at c5
  obtain ⟨v, ⟨l1, f1⟩⟩ := X1
  obtain ⟨s, ⟨l2, f2⟩⟩ := X2
  obtain ⟨c, ⟨l3, f3⟩⟩ := X3
  obtain ⟨h, ⟨l4, f4⟩⟩ := X4
  obtain ⟨t, ⟨l5, f5⟩⟩ := X5
  dsimp only at c1 c2 c3 c4 c5 hdX
  obtain ⟨H, hH⟩ : ∃ H, Pk.btx h = H := ⟨_, rfl⟩
  obtain ⟨T, hTT⟩ : ∃ T, Pk.btx t = T := ⟨_, rfl⟩
  rw [hH] at c4 hdX
  rw [hTT] at c5 hdX
  clear hl hd hH hTT e1 e2 e3 e4 e5 h t
  subst hdX
  obtain ⟨rb, hrb⟩ : ∃ rb, w1.heap.size = rb := ⟨_, rfl⟩
  rw [hrb] at h1
  have hrbw : Box (w1.heap.size = rb) := ⟨hrb⟩
  go_enter Tryd.func16, Tryd.ntmps16
  go_wp2_with fail
  refine h1.mono ?_
  clear h1 hrb hw1
  rintro e w3 ⟨rfl, hR2, hb2⟩
  have hX0 : Box (RX w 71 r rb w3.heap.size 0 0 0 ⟨#[]⟩ ⟨#[]⟩ (.slice none 0 0) [] l 0 (w3.alloc (.cells #[.int .i64 0, .int .i64 0, .int .i64 0, .string ⟨#[]⟩, .string ⟨#[]⟩, .slice none 0 0] 25))) := ⟨by
    have hb2' : Below w1.heap.size w1 w3 := hrbw.out ▸ hb2
    have hz3 := hz.out.here hb2'
    have hb3 := mono_bel hbz.out hb2' (Nat.le_refl _)
    have hl0 := Pk.Blk.lt hz.out
    have hl1 := Pk.Blk.lt hz3
    have hl2 := Pk.Blk.lt (show Pk.Blk w3 rb _ _ from hR2)
    have hrl : w.heap.size ≤ rb := by rw [← hrbw.out]; exact hbz.out.size
    exact ⟨hz3.here (bel_alloc _ _), (chgB (S := fun _ => False) (bel_alloc w3 _)).blk hR2 fun h => h, BAt.new w3 _ _ _ _ _ _, TxR.nil _ _, by omega, (by have := hrbw.out; omega), by omega, (by rw [hrw.out]; exact Nat.le_refl _), hrl, hb3.size, by decide, mono_bel hb3 (bel_alloc _ _) (Nat.le_refl _)⟩⟩
  obtain ⟨w4, hw4⟩ : ∃ W, w3.alloc (.cells #[.int .i64 0, .int .i64 0, .int .i64 0, .string ⟨#[]⟩, .string ⟨#[]⟩, .slice none 0 0] 25) = W := ⟨_, rfl⟩
  obtain ⟨g, hg⟩ : ∃ g, w3.heap.size = g := ⟨_, rfl⟩
  rw [hg, hw4] at hX0
  have h1 := c1.out rb w4 hX0.out.rd
  clear hb2 hR2 hz hbz c1
  go_wp2_with fail
  refine h1.mono ?_
  clear h1 hw4 hg
  rintro e u0 ⟨rfl, hn⟩
  replace hX0 := Box.mk (hX0.out.next hn)
  clear hn
  obtain ⟨q0, q1, q2, q3, q4, q5⟩ := hX0.out.bill.cells
  obtain ⟨f0, f1, f2, f3, f4, f5⟩ := hX0.out.bill.frees
  have hX1 := Box.mk (hX0.out.set 0 (.int .i64 v) (v' := v) (s' := 0) (c' := 0) (h' := ⟨#[]⟩) (t' := ⟨#[]⟩) rfl)
  obtain ⟨y0, hy⟩ : ∃ W, u0.setCell ⟨g, 0, none⟩ (.int .i64 v) = W := ⟨_, rfl⟩
  rw [hy] at hX1
  clear hX0
  have h1 := c2.out rb y0 hX1.out.rd
  clear c2
  go_wp2_with fail
  refine h1.mono ?_
  clear h1 hy q0 q1 q2 q3 q4 q5 f0 f1 f2 f3 f4 f5
  have hX0 := hX1
  clear hX1
  rintro e u1 ⟨rfl, hn⟩
  replace hX0 := Box.mk (hX0.out.next hn)
  clear hn
  obtain ⟨q0, q1, q2, q3, q4, q5⟩ := hX0.out.bill.cells
  obtain ⟨f0, f1, f2, f3, f4, f5⟩ := hX0.out.bill.frees
  have hX1 := Box.mk (hX0.out.set 1 (.int .i64 s) (v' := v) (s' := s) (c' := 0) (h' := ⟨#[]⟩) (t' := ⟨#[]⟩) rfl)
  obtain ⟨y1, hy⟩ : ∃ W, u1.setCell ⟨g, 1, none⟩ (.int .i64 s) = W := ⟨_, rfl⟩
  rw [hy] at hX1
  clear hX0
  have h1 := c3.out rb y1 hX1.out.rd
  clear c3
  go_wp2_with fail
  refine h1.mono ?_
  clear h1 hy q0 q1 q2 q3 q4 q5 f0 f1 f2 f3 f4 f5
  have hX0 := hX1
  clear hX1
  rintro e u2 ⟨rfl, hn⟩
  replace hX0 := Box.mk (hX0.out.next hn)
  clear hn
  obtain ⟨q0, q1, q2, q3, q4, q5⟩ := hX0.out.bill.cells
  obtain ⟨f0, f1, f2, f3, f4, f5⟩ := hX0.out.bill.frees
  have hX1 := Box.mk (hX0.out.set 2 (.int .i64 c) (v' := v) (s' := s) (c' := c) (h' := ⟨#[]⟩) (t' := ⟨#[]⟩) rfl)
  obtain ⟨y2, hy⟩ : ∃ W, u2.setCell ⟨g, 2, none⟩ (.int .i64 c) = W := ⟨_, rfl⟩
  rw [hy] at hX1
  clear hX0
  have h1 := c4.out rb y2 hX1.out.rd
  clear c4
  go_wp2_with fail
  refine h1.mono ?_
  clear h1 hy q0 q1 q2 q3 q4 q5 f0 f1 f2 f3 f4 f5
  have hX0 := hX1
  clear hX1
  rintro e u3 ⟨rfl, hn⟩
  replace hX0 := Box.mk (hX0.out.next hn)
  clear hn
  obtain ⟨q0, q1, q2, q3, q4, q5⟩ := hX0.out.bill.cells
  obtain ⟨f0, f1, f2, f3, f4, f5⟩ := hX0.out.bill.frees
  have hX1 := Box.mk (hX0.out.set 3 (.string H) (v' := v) (s' := s) (c' := c) (h' := H) (t' := ⟨#[]⟩) rfl)
  obtain ⟨y3, hy⟩ : ∃ W, u3.setCell ⟨g, 3, none⟩ (.string H) = W := ⟨_, rfl⟩
  rw [hy] at hX1
  clear hX0
  have h1 := c5.out rb y3 hX1.out.rd
  clear c5
  go_wp2_with fail
  refine h1.mono ?_
  clear h1 hy q0 q1 q2 q3 q4 q5 f0 f1 f2 f3 f4 f5
  have hX0 := hX1
  clear hX1
  rintro e u4 ⟨rfl, hn⟩
  replace hX0 := Box.mk (hX0.out.next hn)
  clear hn
  obtain ⟨q0, q1, q2, q3, q4, q5⟩ := hX0.out.bill.cells
  obtain ⟨f0, f1, f2, f3, f4, f5⟩ := hX0.out.bill.frees
  have hX1 := Box.mk (hX0.out.set 4 (.string T) (v' := v) (s' := s) (c' := c) (h' := H) (t' := T) rfl)
  obtain ⟨y4, hy⟩ : ∃ W, u4.setCell ⟨g, 4, none⟩ (.string T) = W := ⟨_, rfl⟩
  rw [hy] at hX1
  clear hX0
  go_wp2_with fail
  clear hy q0 q1 q2 q3 q4 q5 f0 f1 f2 f3 f4 f5
  have hS0 : Box (∃ x, RX w 71 r rb g v s c H T x (hsR 0 l5 f5).1 (hsR 0 l5 f5).2.1 (hsR 0 l5 f5).2.2 y4) := ⟨⟨_, hX1.out⟩⟩
  have hI0 : Box (0 = 0 ∨ ((hsR (0 - 1) l5 f5).2.1 ≠ [] ∧ (hsR (0 - 1) l5 f5).2.2 = 0)) := ⟨.inl rfl⟩
  clear hX1
  go_loopw [28] (fun _ wr => ∃ k : Nat, k ≤ 200 ∧ Box (k = 0 ∨ ((hsR (k - 1) l5 f5).2.1 ≠ [] ∧ (hsR (k - 1) l5 f5).2.2 = 0)) ∧ Box (∃ x, RX w 71 r rb g v s c H T x (hsR k l5 f5).1 (hsR k l5 f5).2.1 (hsR k l5 f5).2.2 wr)) (fun _ wr => 200 - lenC (wr.cell? ⟨g, 5, none⟩))
  case atStart => exact ⟨0, by omega, hI0, hS0⟩
  case round =>
    clear hS0 hI0
    obtain ⟨k, hk, hI, hS⟩ := hrel
    obtain ⟨x, hX⟩ := hS.out
    clear hS
    have hsl := hsR_len k l5 f5
    have hFit := Box.mk (hsR_fit k l5 f5)
    have hsn : Box (hsR (k + 1) l5 f5 = ((hsR k l5 f5).1 ++ [Pk.btx (Pk.rawR 32 (hsR k l5 f5).2.1 (hsR k l5 f5).2.2).1], (Pk.rawR 32 (hsR k l5 f5).2.1 (hsR k l5 f5).2.2).2.1, (Pk.rawR 32 (hsR k l5 f5).2.1 (hsR k l5 f5).2.2).2.2)) := ⟨rfl⟩
    have hI2 : Box ((hsR k l5 f5).2.1 ≠ [] → (hsR k l5 f5).2.2 = 0 → (k + 1 = 0 ∨ ((hsR (k + 1 - 1) l5 f5).2.1 ≠ [] ∧ (hsR (k + 1 - 1) l5 f5).2.2 = 0))) := ⟨fun h1 h2 => .inr ⟨h1, h2⟩⟩
    have hex := Box.mk fun hex => acc_doc ⟨v, s, c, H, T, l5, f5⟩ k hk hI.out hex
    have haE := Box.mk (acc_end (d := ⟨v, s, c, H, T, l5, f5⟩) (k := k))
    have haC := Box.mk (acc_chk (d := ⟨v, s, c, H, T, l5, f5⟩) (k := k))
    have haY := Box.mk (acc_yes (d := ⟨v, s, c, H, T, l5, f5⟩) (k := k))
    dsimp only at hex haE haC haY
    obtain ⟨a, kk, rfl⟩ := hX.row.shape
    rw [hsl] at hX
    obtain ⟨L, hL⟩ : ∃ L, (hsR k l5 f5).1 = L := ⟨_, rfl⟩
    obtain ⟨l2, hl2⟩ : ∃ l2, (hsR k l5 f5).2.1 = l2 := ⟨_, rfl⟩
    obtain ⟨e2, he2⟩ : ∃ e2, (hsR k l5 f5).2.2 = e2 := ⟨_, rfl⟩
    rw [hl2, he2] at hex haE haY hI2 hsn hX
    rw [hL] at haC haY hsn hX hsl hFit
    have hLB := Box.mk hL
    have hlenS := Pk.mk_size l2
    have p0 : wr.cell? ⟨rb, 0, none⟩ = some (.string (Pk.btx l2)) := Pk.Blk.cell hX.rd 0
    have p1 : wr.cell? ⟨rb, 1, none⟩ = some (.int .i64 e2) := Pk.Blk.cell hX.rd 1
    have q5 : wr.cell? ⟨g, 5, none⟩ = some (.slice a k kk) := hX.bill.cells.2.2.2.2.2
    obtain ⟨S, hS⟩ : ∃ S, Pk.btx l2 = S := ⟨_, rfl⟩
    rw [hS] at hlenS p0
    replace hX := Box.mk hX
    have hLl := Box.mk hsl
    have hkmk : Box ((l2 = [] ∨ e2 ≠ 0 ∨ k = 200) → (Pk.endE l2 e2 ≠ 0 → acc ⟨v, s, c, H, T, l5, f5⟩ (kP ⟨v, s, c, H, T, l5, f5⟩) = false) ∧ (chkI v s c H T L ≠ 0 → acc ⟨v, s, c, H, T, l5, f5⟩ (kP ⟨v, s, c, H, T, l5, f5⟩) = false) ∧ (Pk.endE l2 e2 = 0 → chkI v s c H T L = 0 → acc ⟨v, s, c, H, T, l5, f5⟩ (kP ⟨v, s, c, H, T, l5, f5⟩) = true ∧ (hsR (kP ⟨v, s, c, H, T, l5, f5⟩) l5 f5).1 = L)) := ⟨fun hx => by
      obtain ⟨h1, h2⟩ := hex.out hx
      refine ⟨fun hE => ?_, fun hC => ?_, fun hE hC => ?_⟩
      · cases hA : acc ⟨v, s, c, H, T, l5, f5⟩ (kP ⟨v, s, c, H, T, l5, f5⟩) with
        | false => rfl
        | true => rw [← h2 hA, haE.out hE] at hA; cases hA
      · cases hA : acc ⟨v, s, c, H, T, l5, f5⟩ (kP ⟨v, s, c, H, T, l5, f5⟩) with
        | false => rfl
        | true => rw [← h2 hA, haC.out hC] at hA; cases hA
      · have h3 := haY.out hE hC
        rw [← h1 h3]
        exact ⟨h3, hLB.out⟩⟩
    clear hsl hL hl2 he2 hex haE haC haY hS
    by_cases hl0 : l2 = []
    · have hgt : ¬ (S.size : Int) > 0 := by rw [hlenS, hl0]; simp
      obtain ⟨k1, k2, k3⟩ := hkmk.out (.inl hl0)
      have hkE := Box.mk k1
      have hkC := Box.mk k2
      have hkY := Box.mk k3
      clear k1 k2 k3 hkmk hl0 hlenS hI2 hsn
      have h1 := Pk.xend_any rb l2 e2 wr hX.out.rd
      by_cases hE : Pk.endE l2 e2 = 0
      · rw [hE] at h1
        go_wp2_with fail
        refine h1.mono ?_
        clear h1 q5 p0 p1
        rintro e w10 ⟨rfl, hn10⟩
        replace hX := Box.mk (hX.out.next hn10)
        clear hn10
        obtain ⟨q0, q1, q2, q3, q4, q5⟩ := hX.out.bill.cells
        have h1 := rcheck_any v s c H T a k kk L w10 (txPA hX.out.row hLl.out) hFit.out
        by_cases hC : chkI v s c H T L = 0
        · rw [hC] at h1
          have hAc := Box.mk (hkY.out hE hC)
          clear hE hC
          go_wp2_with fail
          refine h1.mono ?_
          clear h1 q0 q1 q2 q3 q4 q5
          rintro e w11 ⟨rfl, hb11⟩
          replace hX := Box.mk (hX.out.here hb11)
          clear hb11
          obtain ⟨q0, q1, q2, q3, q4, q5⟩ := hX.out.bill.cells
          obtain ⟨g0, g1, g2, g3, g4, g5⟩ := hX.out.res.frees
          obtain ⟨r0, r1, r2, r3, r4, r5⟩ := hX.out.res.cells
          go_wp2_with fail
          obtain ⟨k1, k2, k3⟩ := hX.out.fin (v' := v) (s' := s) (c' := c) (h' := H) (t' := T) (x' := .slice a k kk)
          show bodyPost _ _ _ _ _ (put6 w11 r v s c H T (.slice a k kk))
          clear q0 q1 q2 q3 q4 q5 g0 g1 g2 g3 g4 g5 r0 r1 r2 r3 r4 r5
          obtain ⟨q0, q1, q2, q3, q4, q5⟩ := k1.cells
          obtain ⟨W, hW⟩ : ∃ W, put6 w11 r v s c H T (.slice a k kk) = W := ⟨_, rfl⟩
          rw [hW] at q0 q1 q2 q3 q4 q5 k2 k3 ⊢
          refine bodyPost_ret (v := .tuple #[.agg #[.int .i64 v, .int .i64 s, .int .i64 c, .string H, .string T, .slice a k kk], .int .i64 0]) (by simp [results, Tryd.results16, go_sem, q0, q1, q2, q3, q4, q5]; try rfl) rfl (hRI.out W _ |>.1 hAc.out.1 (by rw [hAc.out.2]; exact ⟨_, rfl, k2, k3⟩))
        · have hAc := Box.mk (hkC.out hC)
          obtain ⟨I, hI⟩ : ∃ I, chkI v s c H T L = I := ⟨_, rfl⟩
          rw [hI] at h1 hC
          have hC0 : (I != 0) = true := by simpa using hC
          clear hE hI
          go_wp2_with fail
          refine h1.mono ?_
          clear h1 q0 q1 q2 q3 q4 q5
          rintro e w11 ⟨rfl, hb11⟩
          replace hX := Box.mk (hX.out.here hb11)
          clear hb11
          obtain ⟨g0, g1, g2, g3, g4, g5⟩ := hX.out.res.frees
          obtain ⟨r0, r1, r2, r3, r4, r5⟩ := hX.out.res.cells
          go_wp2_with fail
          obtain ⟨k1, _, k3⟩ := hX.out.fin (v' := 0) (s' := 0) (c' := 0) (h' := ⟨#[]⟩) (t' := ⟨#[]⟩) (x' := .slice none 0 0)
          show bodyPost _ _ _ _ _ (put6 w11 r 0 0 0 ⟨#[]⟩ ⟨#[]⟩ (.slice none 0 0))
          clear g0 g1 g2 g3 g4 g5 r0 r1 r2 r3 r4 r5
          obtain ⟨q0, q1, q2, q3, q4, q5⟩ := k1.cells
          obtain ⟨W, hW⟩ : ∃ W, put6 w11 r 0 0 0 ⟨#[]⟩ ⟨#[]⟩ (.slice none 0 0) = W := ⟨_, rfl⟩
          rw [hW] at q0 q1 q2 q3 q4 q5 k3 ⊢
          refine bodyPost_ret (v := .tuple #[.agg #[.int .i64 0, .int .i64 0, .int .i64 0, .string ⟨#[]⟩, .string ⟨#[]⟩, .slice none 0 0], .int .i64 3]) (by simp [results, Tryd.results16, go_sem, q0, q1, q2, q3, q4, q5]; try rfl) rfl (hRI.out W _ |>.2 hAc.out ⟨_, rfl, TxR.nil _ _, k3⟩)

      · have hAc := Box.mk (hkE.out hE)
        obtain ⟨I, hI⟩ : ∃ I, Pk.endE l2 e2 = I := ⟨_, rfl⟩
        rw [hI] at h1 hE
        have hC0 : (I != 0) = true := by simpa using hE
        clear hI
        go_wp2_with fail
        refine h1.mono ?_
        clear h1 q5 p0 p1
        rintro e w10 ⟨rfl, hn10⟩
        replace hX := Box.mk (hX.out.next hn10)
        clear hn10
        obtain ⟨g0, g1, g2, g3, g4, g5⟩ := hX.out.res.frees
        obtain ⟨r0, r1, r2, r3, r4, r5⟩ := hX.out.res.cells
        go_wp2_with fail
        obtain ⟨k1, _, k3⟩ := hX.out.fin (v' := 0) (s' := 0) (c' := 0) (h' := ⟨#[]⟩) (t' := ⟨#[]⟩) (x' := .slice none 0 0)
        show bodyPost _ _ _ _ _ (put6 w10 r 0 0 0 ⟨#[]⟩ ⟨#[]⟩ (.slice none 0 0))
        clear g0 g1 g2 g3 g4 g5 r0 r1 r2 r3 r4 r5
        obtain ⟨q0, q1, q2, q3, q4, q5⟩ := k1.cells
        obtain ⟨W, hW⟩ : ∃ W, put6 w10 r 0 0 0 ⟨#[]⟩ ⟨#[]⟩ (.slice none 0 0) = W := ⟨_, rfl⟩
        rw [hW] at q0 q1 q2 q3 q4 q5 k3 ⊢
        refine bodyPost_ret (v := .tuple #[.agg #[.int .i64 0, .int .i64 0, .int .i64 0, .string ⟨#[]⟩, .string ⟨#[]⟩, .slice none 0 0], .int .i64 3]) (by simp [results, Tryd.results16, go_sem, q0, q1, q2, q3, q4, q5]; try rfl) rfl (hRI.out W _ |>.2 hAc.out ⟨_, rfl, TxR.nil _ _, k3⟩)
    have hlp : 0 < l2.length := by rcases l2 with _ | ⟨z, zs⟩; exact absurd rfl hl0; simp
    have hgt : (S.size : Int) > 0 := by omega
    by_cases he0 : e2 = 0
    · have hee : (e2 == 0) = true := by simpa using he0
      by_cases hk2 : k < 200
      · have hkk : (k : Int) < 200 := by omega
        have hI3 := Box.mk (hI2.out hl0 he0)
        have hcall := Box.mk fun w' (hb : Below wr.heap.size wr w') => Pk.xraw_any rb l2 e2 32 w' (hX.out.here hb).rd
        obtain ⟨X, hXe⟩ : ∃ X, Pk.rawR 32 l2 e2 = X := ⟨_, rfl⟩
        rw [hXe] at hcall hsn
        obtain ⟨z, hz⟩ : ∃ z, Pk.btx X.1 = z := ⟨_, rfl⟩
        rw [hz] at hcall hsn
        have kB := Box.mk fun w' (hb : Below wr.heap.size wr w') => (hX.out.here hb).bill
        have k5 := Box.mk fun w' (hb : BAt w' g v s c H T (.slice a k kk)) => hb.cells.2.2.2.2.2
        have hq5B := Box.mk q5
        clear hkmk hI2 hl0 hlp hlenS hXe hz hI
        go_wp2_with fail
        clear q5 p0 p1
        refine region_sC (fun w' => BAt w' g v s c H T (.slice a k kk)) (fun w' => Below wr.heap.size wr w') (fun w w' => w = w') rfl (dB wr) ?_
        refine anyS_calms [0, 1, 2] 5 rfl (fun _ => rfl) (stE kB.out) (by kernel_rfl) (by kernel_rfl) (by kernel_rfl) ?_
        simp [nth]
        try simp only [Act.put, List.setIfInBounds_toArray, List.set_cons_succ, List.set_cons_zero]
        repeat (go_big_quiet_step (first | exact fun _ => rfl | rfl))
        refine quiet_val rfl (.slice a k kk) (fun w' hw' => by have h3 := k5.out w' hw'; go_simp) ?_
        simp only [Act.put, List.setIfInBounds_toArray, List.set_cons_succ, List.set_cons_zero]
        repeat (go_big_quiet_step (first | exact fun _ => rfl | rfl))
        refine wpQuiet_nil ?_
        refine anyS_forced 3 (by kernel_rfl) rfl rfl (fun wa hWa K hK => ?_)
        have hFc := hcall.out wa hWa
        have hA2 := Box.mk (hX.out.here hWa)
        go_simp
        refine hFc.mono ?_
        rintro e wb ⟨rfl, hb⟩
        have hA3 := Box.mk (hA2.out.next hb)
        refine hK _ _ (fun w' => w' = wb) (stE fun w' e => e ▸ hA3.out.bill) rfl ?_
        clear hK K hFc hWa hb hcall hA2 hX
        refine anyS_forced 4 (by kernel_rfl) rfl rfl (fun wc hWc K hK => ?_)
        subst hWc
        have hz := Box.mk (parts_new wc [z] 9)
        have hA4 := Box.mk (hA3.out.here (bel_alloc wc (.cells #[.string z] 9)))
        go_simp
        refine hK _ _ (fun w' => w' = wc.alloc (.cells #[.string z] 9)) (stE fun w' e => e ▸ hA4.out.bill) rfl ?_
        clear hK K hA3
        refine anyS_forced 5 (by kernel_rfl) rfl rfl (fun wd hWd K hK => ?_)
        subst hWd
        refine wp_pushT (.tmp 43) (.tmp 46) rfl w.heap.size _ _ [z] rfl hA4.out.row hA4.out.bel.size (some ⟨wc.heap.size, 0, none⟩) 1 1 rfl rfl hz.out (by rw [hLl.out]; omega) ?_
        intro v' w6 hp5
        obtain ⟨hE1, hE2⟩ := hA4.out.push hp5
        have hE := Box.mk hE1
        have hA6 := Box.mk hE2
        refine hK _ _ (fun w' => w' = w6) (stE fun w' e => e ▸ hE.out) rfl ?_
        clear hK K hp5 hz hA4 hE1 hE2
        refine anyS_calms [6] 1 rfl (fun _ => rfl) (stE fun w' e => e ▸ hE.out) (by kernel_rfl) (by kernel_rfl) (by kernel_rfl) ?_
        simp [nth]
        try simp only [Act.put, List.setIfInBounds_toArray, List.set_cons_succ, List.set_cons_zero]
        repeat (go_big_quiet_step (first | exact fun _ => rfl | rfl))
        refine wpQuiet_nil ?_
        refine anyS_last 7 (by kernel_rfl) rfl rfl (by kernel_rfl) (by kernel_rfl) (fun we hWe K hK => ?_)
        subst hWe
        have p5 := hE.out.cells.2.2.2.2.2
        have f5' := hE.out.frees.2.2.2.2.2
        obtain ⟨va, vc, rfl⟩ := hA6.out.row.shape
        have hlz : (L ++ [z]).length = k + 1 := by rw [List.length_append, hLl.out]; rfl
        rw [hlz] at hA6 ⊢
        have hS : Box (∃ x, RX w 71 r rb g v s c H T x (hsR (k + 1) l5 f5).1 (hsR (k + 1) l5 f5).2.1 (hsR (k + 1) l5 f5).2.2 (we.setCell ⟨g, 5, none⟩ (.slice va (k + 1) vc))) := ⟨⟨_, by rw [hsn.out]; exact hA6.out⟩⟩
        have hq6 : Box ((we.setCell ⟨g, 5, none⟩ (.slice va (k + 1) vc)).cell? ⟨g, 5, none⟩ = some (.slice va (k + 1) vc)) := ⟨hA6.out.bill.cells.2.2.2.2.2⟩
        obtain ⟨W5, hW5⟩ : ∃ W, we.setCell ⟨g, 5, none⟩ (.slice va (k + 1) vc) = W := ⟨_, rfl⟩
        rw [hW5] at hS hq6
        go_simp
        refine hK _ _ ?_
        clear hK K p5 f5' hE hA6
        go_wp2_with fail
        exact ⟨⟨k + 1, by omega, hI3, hS⟩, by rw [hq6.out, hq5B.out]; simp only [lenC]; omega⟩
      · have hkk : ¬ (k : Int) < 200 := by omega
        obtain ⟨k1, k2, k3⟩ := hkmk.out (.inr (.inr (by omega)))
        have hkE := Box.mk k1
        have hkC := Box.mk k2
        have hkY := Box.mk k3
        clear k1 k2 k3 hkmk hl0 hlp hlenS hI2 hsn he0
        have h1 := Pk.xend_any rb l2 e2 wr hX.out.rd
        by_cases hE : Pk.endE l2 e2 = 0
        · rw [hE] at h1
          go_wp2_with fail
          refine h1.mono ?_
          clear h1 q5 p0 p1
          rintro e w10 ⟨rfl, hn10⟩
          replace hX := Box.mk (hX.out.next hn10)
          clear hn10
          obtain ⟨q0, q1, q2, q3, q4, q5⟩ := hX.out.bill.cells
          have h1 := rcheck_any v s c H T a k kk L w10 (txPA hX.out.row hLl.out) hFit.out
          by_cases hC : chkI v s c H T L = 0
          · rw [hC] at h1
            have hAc := Box.mk (hkY.out hE hC)
            clear hE hC
            go_wp2_with fail
            refine h1.mono ?_
            clear h1 q0 q1 q2 q3 q4 q5
            rintro e w11 ⟨rfl, hb11⟩
            replace hX := Box.mk (hX.out.here hb11)
            clear hb11
            obtain ⟨q0, q1, q2, q3, q4, q5⟩ := hX.out.bill.cells
            obtain ⟨g0, g1, g2, g3, g4, g5⟩ := hX.out.res.frees
            obtain ⟨r0, r1, r2, r3, r4, r5⟩ := hX.out.res.cells
            go_wp2_with fail
            obtain ⟨k1, k2, k3⟩ := hX.out.fin (v' := v) (s' := s) (c' := c) (h' := H) (t' := T) (x' := .slice a k kk)
            show bodyPost _ _ _ _ _ (put6 w11 r v s c H T (.slice a k kk))
            clear q0 q1 q2 q3 q4 q5 g0 g1 g2 g3 g4 g5 r0 r1 r2 r3 r4 r5
            obtain ⟨q0, q1, q2, q3, q4, q5⟩ := k1.cells
            obtain ⟨W, hW⟩ : ∃ W, put6 w11 r v s c H T (.slice a k kk) = W := ⟨_, rfl⟩
            rw [hW] at q0 q1 q2 q3 q4 q5 k2 k3 ⊢
            refine bodyPost_ret (v := .tuple #[.agg #[.int .i64 v, .int .i64 s, .int .i64 c, .string H, .string T, .slice a k kk], .int .i64 0]) (by simp [results, Tryd.results16, go_sem, q0, q1, q2, q3, q4, q5]; try rfl) rfl (hRI.out W _ |>.1 hAc.out.1 (by rw [hAc.out.2]; exact ⟨_, rfl, k2, k3⟩))
          · have hAc := Box.mk (hkC.out hC)
            obtain ⟨I, hI⟩ : ∃ I, chkI v s c H T L = I := ⟨_, rfl⟩
            rw [hI] at h1 hC
            have hC0 : (I != 0) = true := by simpa using hC
            clear hE hI
            go_wp2_with fail
            refine h1.mono ?_
            clear h1 q0 q1 q2 q3 q4 q5
            rintro e w11 ⟨rfl, hb11⟩
            replace hX := Box.mk (hX.out.here hb11)
            clear hb11
            obtain ⟨g0, g1, g2, g3, g4, g5⟩ := hX.out.res.frees
            obtain ⟨r0, r1, r2, r3, r4, r5⟩ := hX.out.res.cells
            go_wp2_with fail
            obtain ⟨k1, _, k3⟩ := hX.out.fin (v' := 0) (s' := 0) (c' := 0) (h' := ⟨#[]⟩) (t' := ⟨#[]⟩) (x' := .slice none 0 0)
            show bodyPost _ _ _ _ _ (put6 w11 r 0 0 0 ⟨#[]⟩ ⟨#[]⟩ (.slice none 0 0))
            clear g0 g1 g2 g3 g4 g5 r0 r1 r2 r3 r4 r5
            obtain ⟨q0, q1, q2, q3, q4, q5⟩ := k1.cells
            obtain ⟨W, hW⟩ : ∃ W, put6 w11 r 0 0 0 ⟨#[]⟩ ⟨#[]⟩ (.slice none 0 0) = W := ⟨_, rfl⟩
            rw [hW] at q0 q1 q2 q3 q4 q5 k3 ⊢
            refine bodyPost_ret (v := .tuple #[.agg #[.int .i64 0, .int .i64 0, .int .i64 0, .string ⟨#[]⟩, .string ⟨#[]⟩, .slice none 0 0], .int .i64 3]) (by simp [results, Tryd.results16, go_sem, q0, q1, q2, q3, q4, q5]; try rfl) rfl (hRI.out W _ |>.2 hAc.out ⟨_, rfl, TxR.nil _ _, k3⟩)

        · have hAc := Box.mk (hkE.out hE)
          obtain ⟨I, hI⟩ : ∃ I, Pk.endE l2 e2 = I := ⟨_, rfl⟩
          rw [hI] at h1 hE
          have hC0 : (I != 0) = true := by simpa using hE
          clear hI
          go_wp2_with fail
          refine h1.mono ?_
          clear h1 q5 p0 p1
          rintro e w10 ⟨rfl, hn10⟩
          replace hX := Box.mk (hX.out.next hn10)
          clear hn10
          obtain ⟨g0, g1, g2, g3, g4, g5⟩ := hX.out.res.frees
          obtain ⟨r0, r1, r2, r3, r4, r5⟩ := hX.out.res.cells
          go_wp2_with fail
          obtain ⟨k1, _, k3⟩ := hX.out.fin (v' := 0) (s' := 0) (c' := 0) (h' := ⟨#[]⟩) (t' := ⟨#[]⟩) (x' := .slice none 0 0)
          show bodyPost _ _ _ _ _ (put6 w10 r 0 0 0 ⟨#[]⟩ ⟨#[]⟩ (.slice none 0 0))
          clear g0 g1 g2 g3 g4 g5 r0 r1 r2 r3 r4 r5
          obtain ⟨q0, q1, q2, q3, q4, q5⟩ := k1.cells
          obtain ⟨W, hW⟩ : ∃ W, put6 w10 r 0 0 0 ⟨#[]⟩ ⟨#[]⟩ (.slice none 0 0) = W := ⟨_, rfl⟩
          rw [hW] at q0 q1 q2 q3 q4 q5 k3 ⊢
          refine bodyPost_ret (v := .tuple #[.agg #[.int .i64 0, .int .i64 0, .int .i64 0, .string ⟨#[]⟩, .string ⟨#[]⟩, .slice none 0 0], .int .i64 3]) (by simp [results, Tryd.results16, go_sem, q0, q1, q2, q3, q4, q5]; try rfl) rfl (hRI.out W _ |>.2 hAc.out ⟨_, rfl, TxR.nil _ _, k3⟩)
    · have hee : (e2 == 0) = false := by simpa using he0
      obtain ⟨k1, k2, k3⟩ := hkmk.out (.inr (.inl he0))
      have hkE := Box.mk k1
      have hkC := Box.mk k2
      have hkY := Box.mk k3
      clear k1 k2 k3 hkmk hl0 hlp hlenS hI2 hsn he0
      have h1 := Pk.xend_any rb l2 e2 wr hX.out.rd
      by_cases hE : Pk.endE l2 e2 = 0
      · rw [hE] at h1
        go_wp2_with fail
        refine h1.mono ?_
        clear h1 q5 p0 p1
        rintro e w10 ⟨rfl, hn10⟩
        replace hX := Box.mk (hX.out.next hn10)
        clear hn10
        obtain ⟨q0, q1, q2, q3, q4, q5⟩ := hX.out.bill.cells
        have h1 := rcheck_any v s c H T a k kk L w10 (txPA hX.out.row hLl.out) hFit.out
        by_cases hC : chkI v s c H T L = 0
        · rw [hC] at h1
          have hAc := Box.mk (hkY.out hE hC)
          clear hE hC
          go_wp2_with fail
          refine h1.mono ?_
          clear h1 q0 q1 q2 q3 q4 q5
          rintro e w11 ⟨rfl, hb11⟩
          replace hX := Box.mk (hX.out.here hb11)
          clear hb11
          obtain ⟨q0, q1, q2, q3, q4, q5⟩ := hX.out.bill.cells
          obtain ⟨g0, g1, g2, g3, g4, g5⟩ := hX.out.res.frees
          obtain ⟨r0, r1, r2, r3, r4, r5⟩ := hX.out.res.cells
          go_wp2_with fail
          obtain ⟨k1, k2, k3⟩ := hX.out.fin (v' := v) (s' := s) (c' := c) (h' := H) (t' := T) (x' := .slice a k kk)
          show bodyPost _ _ _ _ _ (put6 w11 r v s c H T (.slice a k kk))
          clear q0 q1 q2 q3 q4 q5 g0 g1 g2 g3 g4 g5 r0 r1 r2 r3 r4 r5
          obtain ⟨q0, q1, q2, q3, q4, q5⟩ := k1.cells
          obtain ⟨W, hW⟩ : ∃ W, put6 w11 r v s c H T (.slice a k kk) = W := ⟨_, rfl⟩
          rw [hW] at q0 q1 q2 q3 q4 q5 k2 k3 ⊢
          refine bodyPost_ret (v := .tuple #[.agg #[.int .i64 v, .int .i64 s, .int .i64 c, .string H, .string T, .slice a k kk], .int .i64 0]) (by simp [results, Tryd.results16, go_sem, q0, q1, q2, q3, q4, q5]; try rfl) rfl (hRI.out W _ |>.1 hAc.out.1 (by rw [hAc.out.2]; exact ⟨_, rfl, k2, k3⟩))
        · have hAc := Box.mk (hkC.out hC)
          obtain ⟨I, hI⟩ : ∃ I, chkI v s c H T L = I := ⟨_, rfl⟩
          rw [hI] at h1 hC
          have hC0 : (I != 0) = true := by simpa using hC
          clear hE hI
          go_wp2_with fail
          refine h1.mono ?_
          clear h1 q0 q1 q2 q3 q4 q5
          rintro e w11 ⟨rfl, hb11⟩
          replace hX := Box.mk (hX.out.here hb11)
          clear hb11
          obtain ⟨g0, g1, g2, g3, g4, g5⟩ := hX.out.res.frees
          obtain ⟨r0, r1, r2, r3, r4, r5⟩ := hX.out.res.cells
          go_wp2_with fail
          obtain ⟨k1, _, k3⟩ := hX.out.fin (v' := 0) (s' := 0) (c' := 0) (h' := ⟨#[]⟩) (t' := ⟨#[]⟩) (x' := .slice none 0 0)
          show bodyPost _ _ _ _ _ (put6 w11 r 0 0 0 ⟨#[]⟩ ⟨#[]⟩ (.slice none 0 0))
          clear g0 g1 g2 g3 g4 g5 r0 r1 r2 r3 r4 r5
          obtain ⟨q0, q1, q2, q3, q4, q5⟩ := k1.cells
          obtain ⟨W, hW⟩ : ∃ W, put6 w11 r 0 0 0 ⟨#[]⟩ ⟨#[]⟩ (.slice none 0 0) = W := ⟨_, rfl⟩
          rw [hW] at q0 q1 q2 q3 q4 q5 k3 ⊢
          refine bodyPost_ret (v := .tuple #[.agg #[.int .i64 0, .int .i64 0, .int .i64 0, .string ⟨#[]⟩, .string ⟨#[]⟩, .slice none 0 0], .int .i64 3]) (by simp [results, Tryd.results16, go_sem, q0, q1, q2, q3, q4, q5]; try rfl) rfl (hRI.out W _ |>.2 hAc.out ⟨_, rfl, TxR.nil _ _, k3⟩)

      · have hAc := Box.mk (hkE.out hE)
        obtain ⟨I, hI⟩ : ∃ I, Pk.endE l2 e2 = I := ⟨_, rfl⟩
        rw [hI] at h1 hE
        have hC0 : (I != 0) = true := by simpa using hE
        clear hI
        go_wp2_with fail
        refine h1.mono ?_
        clear h1 q5 p0 p1
        rintro e w10 ⟨rfl, hn10⟩
        replace hX := Box.mk (hX.out.next hn10)
        clear hn10
        obtain ⟨g0, g1, g2, g3, g4, g5⟩ := hX.out.res.frees
        obtain ⟨r0, r1, r2, r3, r4, r5⟩ := hX.out.res.cells
        go_wp2_with fail
        obtain ⟨k1, _, k3⟩ := hX.out.fin (v' := 0) (s' := 0) (c' := 0) (h' := ⟨#[]⟩) (t' := ⟨#[]⟩) (x' := .slice none 0 0)
        show bodyPost _ _ _ _ _ (put6 w10 r 0 0 0 ⟨#[]⟩ ⟨#[]⟩ (.slice none 0 0))
        clear g0 g1 g2 g3 g4 g5 r0 r1 r2 r3 r4 r5
        obtain ⟨q0, q1, q2, q3, q4, q5⟩ := k1.cells
        obtain ⟨W, hW⟩ : ∃ W, put6 w10 r 0 0 0 ⟨#[]⟩ ⟨#[]⟩ (.slice none 0 0) = W := ⟨_, rfl⟩
        rw [hW] at q0 q1 q2 q3 q4 q5 k3 ⊢
        refine bodyPost_ret (v := .tuple #[.agg #[.int .i64 0, .int .i64 0, .int .i64 0, .string ⟨#[]⟩, .string ⟨#[]⟩, .slice none 0 0], .int .i64 3]) (by simp [results, Tryd.results16, go_sem, q0, q1, q2, q3, q4, q5]; try rfl) rfl (hRI.out W _ |>.2 hAc.out ⟨_, rfl, TxR.nil _ _, k3⟩)
end Go.Proofs.YtdnhpldcnmbncaaDoor.Bi
