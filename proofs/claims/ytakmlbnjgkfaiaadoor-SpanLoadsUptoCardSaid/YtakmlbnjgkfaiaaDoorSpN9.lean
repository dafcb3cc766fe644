/- Walk of the law SpanLoads. -/
import Derived.Test.YtakmlbnjgkfaiaaDoorMSd
namespace Go.Proofs.YtakmlbnjgkfaiaaDoor
open Go Go.RowKit

/-- Two rows that lie apart. -/
def Apt (v u : Value) : Prop := ∀ k, v.ownBlock = some k → u.ownBlock ≠ some k
theorem Apt.symm {v u : Value} (h : Apt v u) : Apt u v := fun k hk hv => h k hv hk
theorem Apt.place {v v' u : Value} {N : Nat} (h : Apt v u) (hp : ∀ k, v'.ownBlock = some k → v.ownBlock = some k ∨ N ≤ k) (hu : ∀ k, u.ownBlock = some k → k < N) : Apt v' u := fun k hk hu2 => by
  rcases hp k hk with e | e
  · exact h k e hu2
  · have := hu k hu2; omega
/-- A span of the program's and one of the document's, beside each other, both new. -/
structure LD (w0 w : World) (g n : Nat) (v : Value) (P : List ByteArray) (h m : Nat) (u : Value) (Q : List ByteArray) : Prop where
  s : SAt w 25 g n v P
  d : SAt w 45 h m u Q
  ap : Apt v u
  gb : w0.heap.size ≤ g
  hb : w0.heap.size ≤ h
  vb : ∀ k, v.ownBlock = some k → w0.heap.size ≤ k
  ub : ∀ k, u.ownBlock = some k → w0.heap.size ≤ k
  bel : Below w0.heap.size w0 w
theorem LD.ne {w0 w : World} {g n h m : Nat} {v u : Value} {P Q : List ByteArray} (x : LD w0 w g n v P h m u Q) : g ≠ h := fun e => by
  subst e
  have h1 := x.s.blk
  have h2 := x.d.blk
  unfold Pk.Blk at h1 h2
  rw [h1] at h2
  injection h2 with h3
  injection h3 with _ h4
  exact absurd h4 (by decide)
theorem LD.vh {w0 w : World} {g n h m : Nat} {v u : Value} {P Q : List ByteArray} (x : LD w0 w g n v P h m u Q) : v.ownBlock ≠ some h := Pk.Row.apart x.s.row x.d.blk (by decide)
theorem LD.ug {w0 w : World} {g n h m : Nat} {v u : Value} {P Q : List ByteArray} (x : LD w0 w g n v P h m u Q) : u.ownBlock ≠ some g := Pk.Row.apart x.d.row x.s.blk (by decide)
theorem LD.here {w0 w w' : World} {g n h m : Nat} {v u : Value} {P Q : List ByteArray} (x : LD w0 w g n v P h m u Q) (hb : Below w.heap.size w w') : LD w0 w' g n v P h m u Q :=
  ⟨x.s.here hb, x.d.here hb, x.ap, x.gb, x.hb, x.vb, x.ub, mono_bel x.bel hb (Nat.le_refl _)⟩
theorem LD.next1 {w0 w w' : World} {g n n' h m : Nat} {v u : Value} {P P' Q : List ByteArray} (x : LD w0 w g n v P h m u Q) (hs : SNext w 25 g v n' P' w') : ∃ v', LD w0 w' g n' v' P' h m u Q := by
  obtain ⟨v', h1, h2, h3⟩ := hs.out
  refine ⟨v', h1, x.d.chg h2 (fun e => ?_) (fun k hk e => ?_), x.ap.place h3 fun k hk => x.d.row.lt k hk, x.gb, x.hb, fun k hk => ?_, x.ub, x.bel.trans (h2.below x.bel.size fun i hi => ?_)⟩
  · rcases e with e | e
    · exact x.ne e.symm
    · exact x.vh e
  · rcases e with rfl | e
    · exact x.ug hk
    · exact x.ap k e hk
  · rcases h3 k hk with e | e
    · exact x.vb k e
    · exact Nat.le_trans x.bel.size e
  · rcases hi with rfl | hi
    · exact x.gb
    · exact x.vb i hi
theorem LD.next2 {w0 w w' : World} {g n h m m' : Nat} {v u : Value} {P Q Q' : List ByteArray} (x : LD w0 w g n v P h m u Q) (hs : SNext w 45 h u m' Q' w') : ∃ u', LD w0 w' g n v P h m' u' Q' := by
  obtain ⟨u', h1, h2, h3⟩ := hs.out
  refine ⟨u', x.s.chg h2 (fun e => ?_) (fun k hk e => ?_), h1, (x.ap.symm.place h3 fun k hk => x.s.row.lt k hk).symm, x.gb, x.hb, x.vb, fun k hk => ?_, x.bel.trans (h2.below x.bel.size fun i hi => ?_)⟩
  · rcases e with e | e
    · exact x.ne e
    · exact x.ug e
  · rcases e with rfl | e
    · exact x.vh hk
    · exact x.ap k hk e
  · rcases h3 k hk with e | e
    · exact x.ub k e
    · exact Nat.le_trans x.bel.size e
  · rcases hi with rfl | hi
    · exact x.hb
    · exact x.ub i hi
/-- Alike, as the law's loop has them. -/
def LW (w0 w : World) (g h : Nat) : Prop := ∃ (M : Nat) (v u : Value) (P : List ByteArray), LD w0 w g M v P h M u P ∧ Fit P ∧ M < 9223372036854775808
set_option maxHeartbeats 6400000 in
set_option maxRecDepth 100000 in
theorem law_loads (z : Int) (a1 : Option Addr) (n1 c1 : Nat) (ps1 : List ByteArray) (a2 : Option Addr) (n2 c2 : Nat) (ps2 : List ByteArray) (w : World) (hP1 : PA w a1 n1 c1 ps1) (hP2 : PA w a2 n2 c2 ps2) (hK : KIs w) (hT : TIs w) (hx : -9223372036854775808 ≤ z ∧ z < 9223372036854775808) (hz1 : ∀ s ∈ ps1, s.size ≤ 1048576) (hz2 : ∀ s ∈ ps2, s.size ≤ 1048576) :
    Calls Tryd.prog 4 #[.int .i64 z, .slice a1 n1 c1, .slice a2 n2 c2] w fun e w' => e = .returned (.bool true) ∧ Below w.heap.size w w' := by
  have hG := grows_any w hK hT
  by_cases hbad : z < 0 ∨ n1 ≠ pcN z.toNat
  · have hL := Box.mk fun w' => load_bad z a1 n1 c1 w' hx hbad
    have hD := Box.mk fun w' => rload_bad z a1 n1 c1 w' hx hbad
    clear hP1 hP2 hK hT hz1 hz2 hx hbad
    go_enter Tryd.func4, Tryd.ntmps4
    go_wp2_with fail
    refine hG.mono ?_
    rintro e w1 ⟨rfl, hb1⟩
    replace hb1 := Box.mk hb1
    have h1 := hL.out w1
    clear hG
    go_wp2_with fail
    refine h1.mono ?_
    clear h1
    rintro e w2 ⟨rfl, rfl⟩
    have h1 := hD.out w1
    go_wp2_with fail
    refine h1.mono ?_
    clear h1
    rintro e w2 ⟨rfl, rfl⟩
    go_wp2_with fail
    go_ret
    exact ⟨rfl, hb1.out⟩
  · obtain ⟨M0, rfl⟩ : ∃ M : Nat, z = M := ⟨z.toNat, by omega⟩
    have hM0 : M0 < 9223372036854775808 := by omega
    have hnp : n1 = pcN M0 := by
      rcases Nat.decEq n1 (pcN M0) with h | h
      · exact absurd (.inr (by simpa using h)) hbad
      · exact h
    have h64 := pcN_le 64 M0 (by omega)
    have hl1 : ps1.length = pcN M0 := by rw [hP1.len]; exact hnp
    have hL := Box.mk fun w' (hb : Below w.heap.size w w') => load_ok M0 a1 n1 c1 ps1 w' (hP1.here hb) hM0 hl1 (by omega)
    have hD := Box.mk fun w' (hb : Below w.heap.size w w') => rload_ok M0 a1 n1 c1 ps1 w' (hP1.here hb) hM0 hl1 (by omega)
    have hF1 := Box.mk (show Fit ps1 from fun s hs => by have := hz1 s hs; omega)
    unfold NewE at hL hD
    obtain ⟨N, hN⟩ : ∃ N, min n2 40 = N := ⟨_, rfl⟩
    have hmin : min (n2 : Int) 40 = (N : Int) := by omega
    have hNn : N ≤ n2 := by omega
    have hN40 : N ≤ 40 := by omega
    have hlen := Box.mk hP2.len
    have hcap := hP2.cap
    have htop := hP2.top
    have hPN := Box.mk hP2
    replace hz2 := Box.mk hz2
    replace hK := Box.mk hK
    replace hT := Box.mk hT
    have hl64 := Box.mk (show ps1.length ≤ 64 by omega)
    clear hP1 hP2 hz1 hx hbad hnp hN hl1 h64
    go_enter Tryd.func4, Tryd.ntmps4
    go_wp2_with fail
    refine hG.mono ?_
    rintro e w1 ⟨rfl, hb1⟩
    have h1 := hL.out w1 hb1
    replace hb1 := Box.mk hb1
    clear hG hL
    go_wp2_with fail
    refine h1.mono ?_
    clear h1
    rintro e w2 ⟨g, rfl, hN1⟩
    obtain ⟨v, hA, hg, hv, hb2⟩ := hN1.out
    have h1 := hD.out w2 (mono_bel hb1.out hb2 (Nat.le_refl _))
    unfold PtrS
    replace hA := Box.mk hA
    replace hg := Box.mk hg
    replace hv := Box.mk hv
    replace hb2 := Box.mk hb2
    clear hN1 hD
    go_wp2_with fail
    refine h1.mono ?_
    clear h1
    rintro e w3 ⟨h, rfl, hN2⟩
    obtain ⟨u, hA2, hg2, hv2, hb3⟩ := hN2.out
    have hb12 := mono_bel hb1.out hb2.out (Nat.le_refl _)
    have hX : LD w w3 g M0 v ps1 h M0 u ps1 :=
      ⟨hA.out.here hb3, hA2, fun k hk e => (by have := hA.out.row.lt k hk; have := hv2 k e; omega), Nat.le_trans hb1.out.size hg.out, Nat.le_trans hb12.size hg2, fun k hk => Nat.le_trans hb1.out.size (hv.out k hk), fun k hk => Nat.le_trans hb12.size (hv2 k hk), mono_bel hb12 hb3 (Nat.le_refl _)⟩
    have h1 := lsame_any g h M0 v u ps1 w3 hX.s hX.d (hK.out.below hX.bel hK.out.lt) hF1.out hM0 hl64.out
    replace hX := Box.mk hX
    unfold PtrS at h1
    unfold PtrS
    clear hN2 hA2 hg2 hv2 hb3 hb12 hA hg hv hb2 hb1
    go_wp2_with fail
    refine h1.mono ?_
    clear h1
    rintro e w4 ⟨rfl, hb4⟩
    have hS0 : Box (LW w w4 g h) := ⟨⟨M0, v, u, ps1, hX.out.here hb4, hF1.out, hM0⟩⟩
    clear hb4 hX hF1 hl64 hM0
    go_wp2_with fail
    clear hmin
    go_loopw [58] (fun q wr => ∃ i : Nat, i ≤ N ∧ q = .int .i64 (i : Int) ∧ Box (LW w wr g h)) (fun q _ => N - (intOf q).toNat)
    case atStart => exact ⟨0, by omega, rfl, hS0⟩
    case round =>
      clear hS0
      obtain ⟨i, hi, rfl, hS⟩ := hrel
      obtain ⟨M, v, u, P, hX, hF, hM⟩ := hS.out
      clear hS
      by_cases hlt : i < N
      · have hii : (i : Int) < (N : Int) := by omega
        obtain ⟨blk, off, rfl, hblk, hcell⟩ := hPN.out.at_ (by omega)
        obtain ⟨t, ht⟩ : ∃ t, ps2.getD i ByteArray.empty = t := ⟨_, rfl⟩
        have hts : t.size ≤ 1048576 := by
          rw [← ht, List.getD_eq_getElem?_getD, List.getElem?_eq_getElem (show i < ps2.length by rw [hlen.out]; omega)]
          exact hz2.out _ (List.getElem_mem _)
        have hcl : wr.cell? ⟨blk, off + i, none⟩ = some (.string t) := by rw [hX.bel.cell (p := ⟨blk, off + i, none⟩) hblk, hcell i (by omega), ht]
        have q0 : wr.cell? ⟨h, 0, none⟩ = some (.int .i64 (M : Int)) := hX.d.blk.cell 0
        have hKr := hK.out.below hX.bel hK.out.lt
        have hTr := hT.out.below hX.bel hT.out.lt
        have hP64 : P.length ≤ 64 := by rw [hX.s.len]; exact pcN_le 64 M (by omega)
        by_cases hbig : M ≥ 4611686018427387904
        · have hbi : (M : Int) ≥ 4611686018427387904 := by omega
          have hfin := Box.mk hX.bel
          clear hcell hblk ht hX hF hKr hTr hP64
          go_wp2_with fail
          go_ret
          exact ⟨rfl, hfin.out⟩
        · have hbi : ¬ (M : Int) ≥ 4611686018427387904 := by omega
          have h1 := append_any g M v P t wr hX.s hKr hTr hF (by omega) (by omega) hP64
          have hF2 := fit_pushH hF (show t.size ≤ 70000000000000 by omega) M
          have hKB := Box.mk hKr
          have hXB := Box.mk hX
          have hFB := Box.mk hF
          have hF2B := Box.mk hF2
          have hlp := Box.mk hP64
          have htB := Box.mk hts
          unfold PtrS at h1
          clear hcell hblk ht hX hF hKr hTr hP64 hF2 hts
          go_wp2_with fail
          refine h1.mono ?_
          clear h1 q0 hcl
          rintro e w3 ⟨rfl, hn1⟩
          obtain ⟨v3, hX3⟩ := hXB.out.next1 hn1
          have h1 := rappend_any h M u P t w3 hX3.d hFB.out (by have := htB.out; omega) (by omega) hlp.out
          replace hX3 := Box.mk hX3
          unfold PtrS at h1
          clear hn1 hXB
          go_wp2_with fail
          refine h1.mono ?_
          clear h1
          rintro e w4 ⟨rfl, hn2⟩
          obtain ⟨u4, hX4⟩ := hX3.out.next2 hn2
          have hl4 : (pushH M P t).length ≤ 64 := by rw [hX4.s.len]; exact pcN_le 64 _ (by omega)
          have h1 := lsame_any g h (M + 1) v3 u4 (pushH M P t) w4 hX4.s hX4.d (hK.out.below hX4.bel hK.out.lt) hF2B.out (by omega) hl4
          replace hX4 := Box.mk hX4
          unfold PtrS at h1
          clear hn2 hX3 hl4
          go_wp2_with fail
          refine h1.mono ?_
          clear h1
          rintro e w5 ⟨rfl, hb5⟩
          have hS5 : Box (LW w w5 g h) := ⟨⟨M + 1, v3, u4, pushH M P t, hX4.out.here hb5, hF2B.out, by omega⟩⟩
          clear hb5 hX4 hF2B hFB
          go_wp2_with fail
          exact ⟨⟨i + 1, by omega, by go_num, hS5⟩, by simp [intOf]; omega⟩
      · obtain rfl : i = N := by omega
        have hnl : ¬ (i : Int) < (i : Int) := by omega
        have hfin := Box.mk hX.bel
        clear hX hF
        go_wp2_with fail
        go_ret
        exact ⟨rfl, hfin.out⟩
end Go.Proofs.YtakmlbnjgkfaiaaDoor
