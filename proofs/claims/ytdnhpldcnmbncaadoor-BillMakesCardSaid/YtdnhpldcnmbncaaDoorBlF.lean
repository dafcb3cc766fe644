/- Bills made: Make of both. -/
import Derived.Test.YtdnhpldcnmbncaaDoorBlE
import Derived.Test.YtdnhpldcnmbncaaDoorTxR
namespace Go.Proofs.YtdnhpldcnmbncaaDoor.Bi
open Go Go.RowKit Go.Proofs.YtdnhpldcnmbncaaDoor
set_option linter.all false

/-- The chunks' hashes of an image. -/
def chT (c : Nat) (x : ByteArray) (i : Nat) : ByteArray := leafH (x.extract (i * c) (min ((i + 1) * c) x.size))
def mkL (c : Nat) (x : ByteArray) (m : Nat) : List ByteArray := (List.range m).map (chT c x)
theorem mkL_len (c : Nat) (x : ByteArray) (m : Nat) : (mkL c x m).length = m := by simp [mkL]
theorem mkL_succ (c : Nat) (x : ByteArray) (m : Nat) : mkL c x (m + 1) = mkL c x m ++ [chT c x m] := by simp [mkL, List.range_succ]
theorem mkL_32 (c : Nat) (x : ByteArray) (m : Nat) : ∀ y ∈ mkL c x m, y.size = 32 := fun y hy => by
  simp only [mkL, List.mem_map] at hy
  obtain ⟨i, _, rfl⟩ := hy
  exact leafH_size _
/-- A bill that is being made, and the result's block. -/
structure MX (w0 : World) (r g : Nat) (v s c : Int) (h t : ByteArray) (x : Value) (l : List ByteArray) (w : World) : Prop where
  res : BAt w r 0 0 0 ⟨#[]⟩ ⟨#[]⟩ (.slice none 0 0)
  bill : BAt w g v s c h t x
  row : TxR w0.heap.size w x l
  ne : r ≠ g
  rb : w0.heap.size ≤ r
  gb : w0.heap.size ≤ g
  bel : Below w0.heap.size w0 w
theorem MX.here {w0 w w' : World} {r g : Nat} {v s c : Int} {h t : ByteArray} {x : Value} {l : List ByteArray} (hM : MX w0 r g v s c h t x l w) (hb : Below w.heap.size w w') : MX w0 r g v s c h t x l w' :=
  ⟨hM.res.here hb, hM.bill.here hb, hM.row.here hb, hM.ne, hM.rb, hM.gb, mono_bel hM.bel hb (Nat.le_refl _)⟩
theorem MX.apart {w0 w : World} {r g : Nat} {v s c : Int} {h t : ByteArray} {x : Value} {l : List ByteArray} (hM : MX w0 r g v s c h t x l w) : x.ownBlock ≠ some g ∧ x.ownBlock ≠ some r :=
  ⟨Pk.Row.apart (hM.row.base (Nat.zero_le _)) hM.bill (by decide), Pk.Row.apart (hM.row.base (Nat.zero_le _)) hM.res (by decide)⟩
theorem MX.set {w0 w : World} {r g : Nat} {v s c : Int} {h t : ByteArray} {x : Value} {l : List ByteArray} (hM : MX w0 r g v s c h t x l w) (j : Nat) (u : Value) {v' s' c' : Int} {h' t' : ByteArray}
    (hu : [.int .i64 v, .int .i64 s, .int .i64 c, .string h, .string t, x].set j u = [.int .i64 v', .int .i64 s', .int .i64 c', .string h', .string t', x]) : MX w0 r g v' s' c' h' t' x l (w.setCell ⟨g, j, none⟩ u) := by
  have hc : Pk.Chg (fun i => i = g) w (w.setCell ⟨g, j, none⟩ u) := (Pk.Chg.refl (fun i => i = g) w).setCell (p := ⟨g, j, none⟩) rfl u
  refine ⟨hc.blk hM.res hM.ne, ?_, hM.row.chg hc fun k hk e => hM.apart.1 (by rw [hk, e]), hM.ne, hM.rb, hM.gb, hM.bel.trans (hc.below hM.bel.size fun _ hi => hi ▸ hM.gb)⟩
  have := Pk.Blk.setCell hM.bill j u
  rw [hu] at this
  exact this
theorem MX.push {w0 w w2 : World} {r g : Nat} {v s c : Int} {h t : ByteArray} {x x' : Value} {l l' : List ByteArray} (hM : MX w0 r g v s c h t x l w) (hp : PushedT w0.heap.size w x l' x' w2) :
    BAt w2 g v s c h t x ∧ MX w0 r g v s c h t x' l' (w2.setCell ⟨g, 5, none⟩ x') := by
  have hg2 : BAt w2 g v s c h t x := hp.chg.blk hM.bill fun e => hM.apart.1 e
  have hr2 : BAt w2 r 0 0 0 ⟨#[]⟩ ⟨#[]⟩ (.slice none 0 0) := hp.chg.blk hM.res fun e => hM.apart.2 e
  have hv2 : x'.ownBlock ≠ some g := Pk.Row.apart (hp.row.base (Nat.zero_le _)) hg2 (by decide)
  have hc : Pk.Chg (fun i => i = g) w2 (w2.setCell ⟨g, 5, none⟩ x') := (Pk.Chg.refl (fun i => i = g) w2).setCell (p := ⟨g, 5, none⟩) rfl x'
  have hbel : Below w0.heap.size w0 w2 := hp.bel hM.bel hM.row
  exact ⟨hg2, hc.blk hr2 hM.ne, Pk.Blk.setCell hg2 5 x', hp.row.chg hc fun k hk e => hv2 (by rw [hk, e]), hM.ne, hM.rb, hM.gb, hbel.trans (hc.below hbel.size fun _ hi => hi ▸ hM.gb)⟩
theorem txPA {B : Nat} {w : World} {a : Option Addr} {n c : Nat} {ids : List ByteArray} (h : TxR B w (.slice a n c) ids) (hn : ids.length = n) : PA w a n c ids := by
  have hp := h.parts
  obtain ⟨hx, ⟨h1, h0⟩ | ⟨g, cap, cur, h1, b1, hg, b2, b3, b4⟩⟩ := h
  · cases h1
    exact ⟨hn, Nat.zero_le _, Nat.zero_le _, fun h => by omega⟩
  · cases h1
    refine ⟨hn, by omega, by unfold maxLen at b3; omega, fun h0 => ?_⟩
    obtain ⟨a2, c2, e2, hh⟩ := hp.ex
    cases e2
    have := hh (by omega)
    rw [hn] at this
    exact this
/-- A bill stored over another. -/
def put6 (w : World) (r : Nat) (v s c : Int) (h t : ByteArray) (x : Value) : World :=
  (((((w.setCell ⟨r, 0, none⟩ (.int .i64 v)).setCell ⟨r, 1, none⟩ (.int .i64 s)).setCell ⟨r, 2, none⟩ (.int .i64 c)).setCell ⟨r, 3, none⟩ (.string h)).setCell ⟨r, 4, none⟩ (.string t)).setCell ⟨r, 5, none⟩ x
theorem BAt.put {w : World} {r : Nat} {v s c v' s' c' : Int} {h t h' t' : ByteArray} {x x' : Value} (hA : BAt w r v s c h t x) : BAt (put6 w r v' s' c' h' t' x') r v' s' c' h' t' x' ∧ Pk.Chg (fun i => i = r) w (put6 w r v' s' c' h' t' x') :=
  ⟨Pk.Blk.setCell (Pk.Blk.setCell (Pk.Blk.setCell (Pk.Blk.setCell (Pk.Blk.setCell (Pk.Blk.setCell hA 0 _) 1 _) 2 _) 3 _) 4 _) 5 _, (((((Pk.Chg.refl (fun i => i = r) w).setCell (p := ⟨r, 0, none⟩) rfl _).setCell (p := ⟨r, 1, none⟩) rfl _).setCell (p := ⟨r, 2, none⟩) rfl _).setCell (p := ⟨r, 3, none⟩) rfl _).setCell (p := ⟨r, 4, none⟩) rfl _ |>.setCell (p := ⟨r, 5, none⟩) rfl _⟩
theorem MX.fin {w0 w : World} {r g : Nat} {v s c v' s' c' : Int} {h t h' t' : ByteArray} {x x' : Value} {l : List ByteArray} (hM : MX w0 r g v s c h t x l w) :
    BAt (put6 w r v' s' c' h' t' x') r v' s' c' h' t' x' ∧ TxR w0.heap.size (put6 w r v' s' c' h' t' x') x l ∧ Below w0.heap.size w0 (put6 w r v' s' c' h' t' x') := by
  obtain ⟨h1, h2⟩ := hM.res.put (v' := v') (s' := s') (c' := c') (h' := h') (t' := t') (x' := x')
  exact ⟨h1, hM.row.chg h2 fun k hk e => hM.apart.2 (by rw [hk, e]), hM.bel.trans (h2.below hM.bel.size fun _ hi => hi ▸ hM.rb)⟩
theorem BAt.frees {w : World} {b : Nat} {v s c : Int} {h t : ByteArray} {x : Value} (hA : BAt w b v s c h t x) :
    w.frozen? ⟨b, 0, none⟩ = false ∧ w.frozen? ⟨b, 1, none⟩ = false ∧ w.frozen? ⟨b, 2, none⟩ = false ∧ w.frozen? ⟨b, 3, none⟩ = false ∧ w.frozen? ⟨b, 4, none⟩ = false ∧ w.frozen? ⟨b, 5, none⟩ = false :=
  ⟨Pk.Blk.free hA 0, Pk.Blk.free hA 1, Pk.Blk.free hA 2, Pk.Blk.free hA 3, Pk.Blk.free hA 4, Pk.Blk.free hA 5⟩
theorem cutN_nat {v c : Int} {S : Nat} {m : Nat} (hn : numB v S c = true) (hm : cntI S c = (m : Int)) {i : Nat} (hi : i < m) : ∃ C : Nat, c = (C : Int) ∧ 64 ≤ C ∧ C ≤ 1024 ∧ m ≤ 128 ∧ i * C < S ∧ i * C ≤ min ((i + 1) * C) S ∧ min ((i + 1) * C) S ≤ S ∧ i * C ≤ 132096 ∧ (i : Int) * c = ((i * C : Nat) : Int) ∧ min (((i : Int) + 1) * c) (S : Int) = ((min ((i + 1) * C) S : Nat) : Int) := by
  obtain ⟨_, _, h1, h2, h3⟩ := num_sz hn
  have hs := sz_cases h3
  obtain ⟨m', hm', m1, m2, m3, m4⟩ := cnt_nat hn
  obtain rfl : m' = m := by omega
  refine ⟨c.toNat, by omega, by omega, by omega, m2, ?_⟩
  rcases hs with rfl | rfl | rfl | rfl | rfl <;> (simp only [show (64 : Int).toNat = 64 from rfl, show (128 : Int).toNat = 128 from rfl, show (256 : Int).toNat = 256 from rfl, show (512 : Int).toNat = 512 from rfl, show (1024 : Int).toNat = 1024 from rfl]; omega)
/-- What a call that answers a bill answers. -/
def BilIs (v s c : Int) (h t : ByteArray) (l : List ByteArray) (er : Int) (w : World) (e : Ending) (w' : World) : Prop :=
  ∃ x, e = .returned (.tuple #[.agg #[.int .i64 v, .int .i64 s, .int .i64 c, .string h, .string t, x], .int .i64 er]) ∧ TxR w.heap.size w' x l ∧ Below w.heap.size w w'
/-- An image's bill, or none. -/
def mkIs (v c : Int) (x : ByteArray) (w : World) (e : Ending) (w' : World) : Prop :=
  (numB v x.size c = true → BilIs v x.size c (hashOf x.data.toList) (rootL (mkL c.toNat x (cntI x.size c).toNat)) (mkL c.toNat x (cntI x.size c).toNat) 0 w e w') ∧
  (numB v x.size c = false → BilIs 0 0 0 ⟨#[]⟩ ⟨#[]⟩ [] 1 w e w')
set_option maxHeartbeats 3200000 in
set_option maxRecDepth 100000 in
theorem make_any (v c : Int) (x : ByteArray) (w : World) (hK : KIs w) (hx : x.size ≤ 140737488354000) :
    Calls Tryd.prog 8 #[.int .i64 v, .int .i64 c, .string x] w (mkIs v c x w) := by
  have hz : Box (BAt (w.alloc (.cells #[.int .i64 0, .int .i64 0, .int .i64 0, .string ⟨#[]⟩, .string ⟨#[]⟩, .slice none 0 0] 25)) w.heap.size 0 0 0 ⟨#[]⟩ ⟨#[]⟩ (.slice none 0 0)) := ⟨BAt.new w _ _ _ _ _ _⟩
  have hKB := Box.mk fun w' (hx : Below w.heap.size w w') => (hK.below hx hK.lt : KIs w')
  have hbz := Box.mk (bel_alloc w (.cells #[.int .i64 0, .int .i64 0, .int .i64 0, .string ⟨#[]⟩, .string ⟨#[]⟩, .slice none 0 0] 25))
  obtain ⟨w1, hw1⟩ : ∃ W, w.alloc (.cells #[.int .i64 0, .int .i64 0, .int .i64 0, .string ⟨#[]⟩, .string ⟨#[]⟩, .slice none 0 0] 25) = W := ⟨_, rfl⟩
  rw [hw1] at hz hbz
  obtain ⟨r, hr⟩ : ∃ r, w.heap.size = r := ⟨_, rfl⟩
  have hM0 : MX w w.heap.size w1.heap.size v x.size c ⟨#[]⟩ ⟨#[]⟩ (.slice none 0 0) [] (w1.alloc (.cells #[.int .i64 v, .int .i64 x.size, .int .i64 c, .string ⟨#[]⟩, .string ⟨#[]⟩, .slice none 0 0] 25)) :=
    ⟨hz.out.here (bel_alloc _ _), BAt.new w1 _ _ _ _ _ _, TxR.nil _ _, (fun e => by have := Pk.Blk.lt hz.out; omega), Nat.le_refl _, hbz.out.size, mono_bel hbz.out (bel_alloc _ _) (Nat.le_refl _)⟩
  rw [hr] at hM0
  have h2 := numbers_any v x.size c ⟨#[]⟩ ⟨#[]⟩ none 0 0 (w1.alloc (.cells #[.int .i64 v, .int .i64 x.size, .int .i64 c, .string ⟨#[]⟩, .string ⟨#[]⟩, .slice none 0 0] 25))
  obtain ⟨g, hg⟩ : ∃ g, w1.heap.size = g := ⟨_, rfl⟩
  rw [hg] at hM0
  replace hM0 := Box.mk hM0
  clear hz hbz hK
  cases hN : numB v x.size c
  · have hN2 := Box.mk hN
    rw [hN] at h2
    clear hN
    go_enter Tryd.func8, Tryd.ntmps8
    go_wp2_with fail
    refine h2.mono ?_
    clear h2
    rintro e w3 ⟨rfl, hb3⟩
    have hM := Box.mk (hM0.out.here hb3)
    clear hM0 hb3 hw1 hg
    obtain ⟨q0, q1, q2, q3, q4, q5⟩ := hM.out.res.cells
    obtain ⟨f0, f1, f2, f3, f4, f5⟩ := hM.out.res.frees
    go_wp2_with fail
    obtain ⟨k1, k2, k3⟩ := hM.out.fin (v' := 0) (s' := 0) (c' := 0) (h' := ⟨#[]⟩) (t' := ⟨#[]⟩) (x' := .slice none 0 0)
    show bodyPost _ _ _ _ _ (put6 w3 r 0 0 0 ⟨#[]⟩ ⟨#[]⟩ (.slice none 0 0))
    clear q0 q1 q2 q3 q4 q5 f0 f1 f2 f3 f4 f5
    obtain ⟨q0, q1, q2, q3, q4, q5⟩ := k1.cells
    obtain ⟨W, hW⟩ : ∃ W, put6 w3 r 0 0 0 ⟨#[]⟩ ⟨#[]⟩ (.slice none 0 0) = W := ⟨_, rfl⟩
    rw [hW] at q0 q1 q2 q3 q4 q5 k2 k3 ⊢
    refine bodyPost_ret (v := .tuple #[.agg #[.int .i64 0, .int .i64 0, .int .i64 0, .string ⟨#[]⟩, .string ⟨#[]⟩, .slice none 0 0], .int .i64 1]) (by simp [results, Tryd.results8, go_sem, q0, q1, q2, q3, q4, q5]; try rfl) rfl ⟨fun h => (by rw [hN2.out] at h; cases h), fun _ => ⟨_, rfl, k2, k3⟩⟩
  · have hN2 := Box.mk hN
    rw [hN] at h2
    obtain ⟨m, hm, hm1, hm2, _, _⟩ := cnt_nat hN
    obtain ⟨_, _, n1, n2, n3⟩ := num_sz hN
    have hcs := sz_cases n3
    have hc0 : 64 ≤ c := by omega
    have hc1 : c ≤ 1024 := by omega
    have hct := Box.mk fun w' => count_any v x.size c ⟨#[]⟩ ⟨#[]⟩ none 0 0 w' m hN hm
    have hmB := Box.mk hm
    have hcn := Box.mk fun i (hi : i < m) => cutN_nat hN hm hi
    clear hN hm hcs n3
    go_enter Tryd.func8, Tryd.ntmps8
    go_wp2_with fail
    refine h2.mono ?_
    clear h2
    rintro e w3 ⟨rfl, hb3⟩
    have hM := Box.mk (hM0.out.here hb3)
    clear hM0 hb3 hw1 hg
    obtain ⟨q0, q1, q2, q3, q4, q5⟩ := hM.out.bill.cells
    have h2 := hct.out w3
    clear hct
    go_wp2_with fail
    refine h2.mono ?_
    clear h2 q0 q1 q2 q3 q4 q5
    rintro e w4 ⟨rfl, hb4⟩
    have hS0 : Box (∃ y, MX w r g v x.size c ⟨#[]⟩ ⟨#[]⟩ y (mkL c.toNat x 0) w4) := ⟨_, hM.out.here hb4⟩
    clear hM hb4
    go_wp2_with fail
    go_loopw [23] (fun q wr => ∃ i : Nat, i ≤ m ∧ q = .int .i64 (i : Int) ∧ Box (∃ y, MX w r g v x.size c ⟨#[]⟩ ⟨#[]⟩ y (mkL c.toNat x i) wr)) (fun q _ => m - (intOf q).toNat)
    case atStart => exact ⟨0, by omega, rfl, hS0⟩
    case round =>
      clear hS0
      obtain ⟨i, hi, rfl, hS⟩ := hrel
      obtain ⟨y, hM⟩ := hS.out
      clear hS
      by_cases hlt : i < m
      · have hii : (i : Int) < (m : Int) := by omega
        obtain ⟨C, hC, z0, z1, z2, z3, z4, z5, z6, z7, z8⟩ := hcn.out i hlt
        have hCt : c.toNat = C := by omega
        have hsc := mkL_succ c.toNat x i
        have hch : chT c.toNat x i = leafH (x.extract (i * C) (min ((i + 1) * C) x.size)) := by rw [hCt]; rfl
        rw [hch] at hsc
        have hll := mkL_len c.toNat x i
        obtain ⟨F, hF⟩ : ∃ F, i * C = F := ⟨_, rfl⟩
        obtain ⟨T, hT⟩ : ∃ T, min ((i + 1) * C) x.size = T := ⟨_, rfl⟩
        obtain ⟨a, k, rfl⟩ := hM.row.shape
        rw [hll] at hM
        have h2 := ucut_any v x.size c (i : Int) ⟨#[]⟩ ⟨#[]⟩ a i k wr hc0 hc1 (by omega) (by omega) (by omega) n2
        rw [z7, z8] at h2
        rw [hF] at z3 z4 z6 h2 hsc
        rw [hT] at z4 z5 h2 hsc
        obtain ⟨q0, q1, q2, q3, q4, q5⟩ := hM.bill.cells
        have hLf := Box.mk fun w' (hx : Below w.heap.size w w') => tleaf_any (x.extract F T) w' (hKB.out w' hx) (by rw [ByteArray.size_extract]; omega)
        obtain ⟨y, hy⟩ : ∃ y, leafH (x.extract F T) = y := ⟨_, rfl⟩
        rw [hy] at hLf hsc
        have hb0 := Box.mk hM.bel
        replace hM := Box.mk hM
        replace hsc := Box.mk hsc
        replace hll := Box.mk hll
        clear hC z0 z1 z2 z7 z8 hCt hch hF hT hy
        go_wp2_with fail
        refine h2.mono ?_
        clear h2 q0 q1 q2 q3 q4 q5
        rintro e w5 ⟨rfl, hb5⟩
        replace hM := Box.mk (hM.out.here hb5)
        replace hb0 := Box.mk (mono_bel hb0.out hb5 (Nat.le_refl _))
        clear hb5
        have kB := Box.mk fun w' (hb : Below w5.heap.size w5 w') => (hM.out.here hb).bill
        have k5 := Box.mk fun w' (hb : BAt w' g v x.size c ⟨#[]⟩ ⟨#[]⟩ (.slice a i k)) => hb.cells.2.2.2.2.2
        go_wp2_with fail
        refine region_sC (fun w' => BAt w' g v x.size c ⟨#[]⟩ ⟨#[]⟩ (.slice a i k)) (fun w' => Below w5.heap.size w5 w') (fun w w' => w = w') rfl (dB w5) ?_
        refine anyS_calms [0, 1, 2, 3, 4, 5] 5 rfl (fun _ => rfl) (stE kB.out) (by kernel_rfl) (by kernel_rfl) (by kernel_rfl) ?_
        simp [nth]
        try simp only [Act.put, List.setIfInBounds_toArray, List.set_cons_succ, List.set_cons_zero]
        repeat (go_big_quiet_step (first | exact fun _ => rfl | rfl))
        refine quiet_val rfl (.slice a i k) (fun w' hw' => by have h3 := k5.out w' hw'; go_simp) ?_
        simp only [Act.put, List.setIfInBounds_toArray, List.set_cons_succ, List.set_cons_zero]
        repeat (go_big_quiet_step (first | exact fun _ => rfl | rfl))
        refine wpQuiet_nil ?_
        refine anyS_forced 6 (by kernel_rfl) rfl rfl (fun wa hWa K hK => ?_)
        have hFc := hLf.out wa (mono_bel hb0.out hWa (Nat.le_refl _))
        have hA2 := Box.mk (hM.out.here hWa)
        go_simp
        refine hFc.mono ?_
        rintro e wb ⟨rfl, hb⟩
        have hA3 := Box.mk (hA2.out.here hb)
        refine hK _ _ (fun w' => w' = wb) (stE fun w' e => e ▸ hA3.out.bill) rfl ?_
        clear hK K hFc hWa hb hLf hA2 hM
        refine anyS_forced 7 (by kernel_rfl) rfl rfl (fun wc hWc K hK => ?_)
        subst hWc
        have hz := Box.mk (parts_new wc [y] 9)
        have hA4 := Box.mk (hA3.out.here (bel_alloc wc (.cells #[.string y] 9)))
        go_simp
        refine hK _ _ (fun w' => w' = wc.alloc (.cells #[.string y] 9)) (stE fun w' e => e ▸ hA4.out.bill) rfl ?_
        clear hK K hA3
        refine anyS_forced 8 (by kernel_rfl) rfl rfl (fun wd hWd K hK => ?_)
        subst hWd
        refine wp_pushT (.tmp 33) (.tmp 39) rfl w.heap.size _ _ [y] rfl hA4.out.row hA4.out.bel.size (some ⟨wc.heap.size, 0, none⟩) 1 1 rfl rfl hz.out (by rw [hll.out]; omega) ?_
        intro v' w6 hp5
        obtain ⟨hE1, hE2⟩ := hA4.out.push hp5
        have hE := Box.mk hE1
        have hA6 := Box.mk hE2
        refine hK _ _ (fun w' => w' = w6) (stE fun w' e => e ▸ hE.out) rfl ?_
        clear hK K hp5 hz hA4 hE1 hE2
        refine anyS_calms [9] 1 rfl (fun _ => rfl) (stE fun w' e => e ▸ hE.out) (by kernel_rfl) (by kernel_rfl) (by kernel_rfl) ?_
        simp [nth]
        try simp only [Act.put, List.setIfInBounds_toArray, List.set_cons_succ, List.set_cons_zero]
        repeat (go_big_quiet_step (first | exact fun _ => rfl | rfl))
        refine wpQuiet_nil ?_
        refine anyS_last 10 (by kernel_rfl) rfl rfl (by kernel_rfl) (by kernel_rfl) (fun we hWe K hK => ?_)
        subst hWe
        have q5 := hE.out.cells.2.2.2.2.2
        have f5 := hE.out.frees.2.2.2.2.2
        rw [← hsc.out] at hA6
        have hS : Box (∃ y, MX w r g v x.size c ⟨#[]⟩ ⟨#[]⟩ y (mkL c.toNat x (i + 1)) (we.setCell ⟨g, 5, none⟩ v')) := ⟨⟨_, hA6.out⟩⟩
        obtain ⟨va, vc, rfl⟩ := hA6.out.row.shape
        rw [mkL_len] at hS ⊢
        obtain ⟨W5, hW5⟩ : ∃ W, we.setCell ⟨g, 5, none⟩ (.slice va (i + 1) vc) = W := ⟨_, rfl⟩
        rw [hW5] at hS
        go_simp
        refine hK _ _ ?_
        clear hK K q5 f5 hE hA6
        go_wp2_with fail
        exact ⟨⟨i + 1, by omega, by go_num, hS⟩, by simp [intOf]; omega⟩
      · obtain rfl : i = m := by omega
        have hnl : ¬ (i : Int) < (i : Int) := by omega
        have hll := mkL_len c.toNat x i
        have h32 := mkL_32 c.toNat x i
        obtain ⟨L, hL⟩ : ∃ L, mkL c.toNat x i = L := ⟨_, rfl⟩
        rw [hL] at hll h32 hM
        obtain ⟨a, k, rfl⟩ := hM.row.shape
        rw [hll] at hM
        have h2 := sum_one x wr (hKB.out wr hM.bel) (by omega)
        obtain ⟨H, hH⟩ : ∃ H, hashOf x.data.toList = H := ⟨_, rfl⟩
        rw [hH] at h2
        obtain ⟨R, hR⟩ : ∃ R, rootL L = R := ⟨_, rfl⟩
        replace hM := Box.mk hM
        have hFit := Box.mk (fit32 h32)
        replace hll := Box.mk hll
        replace hL := Box.mk hL
        replace hH := Box.mk hH
        replace hR := Box.mk hR
        clear h32 hcn
        go_wp2_with fail
        refine h2.mono ?_
        clear h2
        rintro e w5 ⟨rfl, hb5⟩
        replace hM := Box.mk (hM.out.here hb5)
        clear hb5
        obtain ⟨q0, q1, q2, q3, q4, q5⟩ := hM.out.bill.cells
        obtain ⟨f0, f1, f2, f3, f4, f5⟩ := hM.out.bill.frees
        have hM2 := Box.mk (hM.out.set 3 (.string H) (h' := H) (t' := ⟨#[]⟩) (v' := v) (s' := x.size) (c' := c) rfl)
        obtain ⟨w6, hw6⟩ : ∃ W, w5.setCell ⟨g, 3, none⟩ (.string H) = W := ⟨_, rfl⟩
        rw [hw6] at hM2
        have p5 := hM2.out.bill.cells.2.2.2.2.2
        have h2 := root_any i L a k w6 (txPA hM2.out.row hll.out) (hKB.out w6 hM2.out.bel) hFit.out
        rw [hR.out] at h2
        clear hM f0 f1 f2 f4 f5 q0 q1 q2 q4 q5
        go_wp2_with fail
        refine h2.mono ?_
        clear h2 p5 hw6 f3 q3
        rintro e w7 ⟨rfl, hb7⟩
        replace hM := Box.mk (hM2.out.here hb7)
        clear hb7 hM2
        obtain ⟨q0, q1, q2, q3, q4, q5⟩ := hM.out.bill.cells
        obtain ⟨f0, f1, f2, f3, f4, f5⟩ := hM.out.bill.frees
        have hM2 := Box.mk (hM.out.set 4 (.string R) (h' := H) (t' := R) (v' := v) (s' := x.size) (c' := c) rfl)
        obtain ⟨w8, hw8⟩ : ∃ W, w7.setCell ⟨g, 4, none⟩ (.string R) = W := ⟨_, rfl⟩
        rw [hw8] at hM2
        clear q0 q1 q2 q3 q5 f0 f1 f2 f3 f5 hM
        obtain ⟨q0, q1, q2, q3, p4, q5⟩ := hM2.out.bill.cells
        obtain ⟨g0, g1, g2, g3, g4, g5⟩ := hM2.out.res.frees
        obtain ⟨r0, r1, r2, r3, r4, r5⟩ := hM2.out.res.cells
        go_wp2_with fail
        obtain ⟨k1, k2, k3⟩ := hM2.out.fin (v' := v) (s' := x.size) (c' := c) (h' := H) (t' := R) (x' := .slice a i k)
        show bodyPost _ _ _ _ _ (put6 w8 r v x.size c H R (.slice a i k))
        clear q0 q1 q2 q3 q4 q5 f4 g0 g1 g2 g3 g4 g5 r0 r1 r2 r3 r4 r5 hw8
        obtain ⟨q0, q1, q2, q3, q4, q5⟩ := k1.cells
        obtain ⟨W, hW⟩ : ∃ W, put6 w8 r v x.size c H R (.slice a i k) = W := ⟨_, rfl⟩
        rw [hW] at q0 q1 q2 q3 q4 q5 k2 k3 ⊢
        refine bodyPost_ret (v := .tuple #[.agg #[.int .i64 v, .int .i64 x.size, .int .i64 c, .string H, .string R, .slice a i k], .int .i64 0]) (by simp [results, Tryd.results8, go_sem, q0, q1, q2, q3, q4, q5]; try rfl) rfl ⟨fun _ => ?_, fun h => (by rw [hN2.out] at h; cases h)⟩
        rw [hmB.out, Int.toNat_natCast, hL.out, hH.out, hR.out]
        exact ⟨_, rfl, k2, k3⟩
