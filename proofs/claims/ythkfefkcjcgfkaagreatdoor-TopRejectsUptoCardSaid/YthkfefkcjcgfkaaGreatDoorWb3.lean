/- Bills read from bytes: a model; takeLeaf, takeChunks, Read of the program. | Bills read: Read of the program. -/
import Derived.OwnWalk
import Derived.Test.YthkfefkcjcgfkaaGreatDoorWb2
set_option linter.all false
namespace Go.Proofs.YthkfefkcjcgfkaaGreatDoor.Bi
open Go Go.RowKit Go.Proofs.YthkfefkcjcgfkaaGreatDoor
set_option linter.all false

/-- So many hashes read. -/
def hsR : Nat → List UInt8 → Int → List ByteArray × List UInt8 × Int
  | 0, l, e => ([], l, e)
  | k + 1, l, e => ((hsR k l e).1 ++ [Pk.btx (Pk.rawR 32 (hsR k l e).2.1 (hsR k l e).2.2).1], (Pk.rawR 32 (hsR k l e).2.1 (hsR k l e).2.2).2.1, (Pk.rawR 32 (hsR k l e).2.1 (hsR k l e).2.2).2.2)
theorem hsR_len : ∀ (k : Nat) (l : List UInt8) (e : Int), (hsR k l e).1.length = k
  | 0, _, _ => rfl
  | k + 1, l, e => by
    show ((hsR k l e).1 ++ [_]).length = k + 1
    rw [List.length_append, hsR_len k l e]; rfl
theorem hsR_ok : ∀ (k : Nat) (l : List UInt8) (e : Int), (hsR k l e).2.2 = 0 → e = 0 ∧ 32 * k ≤ l.length ∧ (hsR k l e).2.1 = l.drop (32 * k)
  | 0, l, e, h => ⟨h, by omega, rfl⟩
  | k + 1, l, e, h => by
    have h1 : (Pk.rawR 32 (hsR k l e).2.1 (hsR k l e).2.2).2.2 = 0 := h
    have h2 : (hsR k l e).2.2 = 0 := by
      unfold Pk.rawR at h1
      split at h1
      · next hn => exact h1
      · next hn => exact Classical.not_not.1 hn
    obtain ⟨h3, h4, h5⟩ := hsR_ok k l e h2
    unfold Pk.rawR at h1
    rw [if_neg (by simp [h2]), if_neg (by decide)] at h1
    split at h1
    · simp at h1
    · next hn =>
      rw [h5, List.length_drop] at hn
      refine ⟨h3, by omega, ?_⟩
      show (Pk.rawR 32 (hsR k l e).2.1 (hsR k l e).2.2).2.1 = _
      unfold Pk.rawR
      rw [if_neg (by simp [h2]), if_neg (by decide), if_neg (by rw [h5, List.length_drop]; omega), h5]
      show (l.drop (32 * k)).drop 32 = _
      rw [List.drop_drop]; congr 1
theorem end_zero {l : List UInt8} {e : Int} : Pk.endE l e = 0 ↔ l = [] ∧ e = 0 := by
  unfold Pk.endE Pk.failE
  by_cases h : 0 < l.length
  · rw [if_pos h]
    constructor
    · intro h2; split at h2 <;> omega
    · rintro ⟨rfl, _⟩; simp at h
  · rw [if_neg h]
    have : l = [] := List.length_eq_zero_iff.1 (by omega)
    simp [this]
/-- The head of a bill's bytes, read. -/
structure Hd where
  v : Int
  s : Int
  c : Int
  h : ByteArray
  t : ByteArray
  l : List UInt8
  e : Int
def hdR (l : List UInt8) : Hd :=
  ⟨(Pk.numR 1 l 0).1, (Pk.numR 4 (Pk.numR 1 l 0).2.1 (Pk.numR 1 l 0).2.2).1, (Pk.numR 2 (Pk.numR 4 (Pk.numR 1 l 0).2.1 (Pk.numR 1 l 0).2.2).2.1 (Pk.numR 4 (Pk.numR 1 l 0).2.1 (Pk.numR 1 l 0).2.2).2.2).1,
    Pk.btx (Pk.rawR 32 (Pk.numR 2 (Pk.numR 4 (Pk.numR 1 l 0).2.1 (Pk.numR 1 l 0).2.2).2.1 (Pk.numR 4 (Pk.numR 1 l 0).2.1 (Pk.numR 1 l 0).2.2).2.2).2.1 (Pk.numR 2 (Pk.numR 4 (Pk.numR 1 l 0).2.1 (Pk.numR 1 l 0).2.2).2.1 (Pk.numR 4 (Pk.numR 1 l 0).2.1 (Pk.numR 1 l 0).2.2).2.2).2.2).1,
    Pk.btx (Pk.rawR 32 (Pk.rawR 32 (Pk.numR 2 (Pk.numR 4 (Pk.numR 1 l 0).2.1 (Pk.numR 1 l 0).2.2).2.1 (Pk.numR 4 (Pk.numR 1 l 0).2.1 (Pk.numR 1 l 0).2.2).2.2).2.1 (Pk.numR 2 (Pk.numR 4 (Pk.numR 1 l 0).2.1 (Pk.numR 1 l 0).2.2).2.1 (Pk.numR 4 (Pk.numR 1 l 0).2.1 (Pk.numR 1 l 0).2.2).2.2).2.2).2.1 (Pk.rawR 32 (Pk.numR 2 (Pk.numR 4 (Pk.numR 1 l 0).2.1 (Pk.numR 1 l 0).2.2).2.1 (Pk.numR 4 (Pk.numR 1 l 0).2.1 (Pk.numR 1 l 0).2.2).2.2).2.1 (Pk.numR 2 (Pk.numR 4 (Pk.numR 1 l 0).2.1 (Pk.numR 1 l 0).2.2).2.1 (Pk.numR 4 (Pk.numR 1 l 0).2.1 (Pk.numR 1 l 0).2.2).2.2).2.2).2.2).1,
    (Pk.rawR 32 (Pk.rawR 32 (Pk.numR 2 (Pk.numR 4 (Pk.numR 1 l 0).2.1 (Pk.numR 1 l 0).2.2).2.1 (Pk.numR 4 (Pk.numR 1 l 0).2.1 (Pk.numR 1 l 0).2.2).2.2).2.1 (Pk.numR 2 (Pk.numR 4 (Pk.numR 1 l 0).2.1 (Pk.numR 1 l 0).2.2).2.1 (Pk.numR 4 (Pk.numR 1 l 0).2.1 (Pk.numR 1 l 0).2.2).2.2).2.2).2.1 (Pk.rawR 32 (Pk.numR 2 (Pk.numR 4 (Pk.numR 1 l 0).2.1 (Pk.numR 1 l 0).2.2).2.1 (Pk.numR 4 (Pk.numR 1 l 0).2.1 (Pk.numR 1 l 0).2.2).2.2).2.1 (Pk.numR 2 (Pk.numR 4 (Pk.numR 1 l 0).2.1 (Pk.numR 1 l 0).2.2).2.1 (Pk.numR 4 (Pk.numR 1 l 0).2.1 (Pk.numR 1 l 0).2.2).2.2).2.2).2.2).2.1,
    (Pk.rawR 32 (Pk.rawR 32 (Pk.numR 2 (Pk.numR 4 (Pk.numR 1 l 0).2.1 (Pk.numR 1 l 0).2.2).2.1 (Pk.numR 4 (Pk.numR 1 l 0).2.1 (Pk.numR 1 l 0).2.2).2.2).2.1 (Pk.numR 2 (Pk.numR 4 (Pk.numR 1 l 0).2.1 (Pk.numR 1 l 0).2.2).2.1 (Pk.numR 4 (Pk.numR 1 l 0).2.1 (Pk.numR 1 l 0).2.2).2.2).2.2).2.1 (Pk.rawR 32 (Pk.numR 2 (Pk.numR 4 (Pk.numR 1 l 0).2.1 (Pk.numR 1 l 0).2.2).2.1 (Pk.numR 4 (Pk.numR 1 l 0).2.1 (Pk.numR 1 l 0).2.2).2.2).2.1 (Pk.numR 2 (Pk.numR 4 (Pk.numR 1 l 0).2.1 (Pk.numR 1 l 0).2.2).2.1 (Pk.numR 4 (Pk.numR 1 l 0).2.1 (Pk.numR 1 l 0).2.2).2.2).2.2).2.2).2.2⟩
/-- The same, step by step. -/
theorem hd_steps (l : List UInt8) : ∃ X1 X2 X3 : Int × List UInt8 × Int, ∃ X4 X5 : List UInt8 × List UInt8 × Int, Pk.numR 1 l 0 = X1 ∧ Pk.numR 4 X1.2.1 X1.2.2 = X2 ∧ Pk.numR 2 X2.2.1 X2.2.2 = X3 ∧ Pk.rawR 32 X3.2.1 X3.2.2 = X4 ∧ Pk.rawR 32 X4.2.1 X4.2.2 = X5 ∧
    hdR l = ⟨X1.1, X2.1, X3.1, Pk.btx X4.1, Pk.btx X5.1, X5.2.1, X5.2.2⟩ := ⟨_, _, _, _, _, rfl, rfl, rfl, rfl, rfl, rfl⟩
/-- How many hashes the program reads behind the head. -/
def kP (d : Hd) : Nat := if 0 < d.l.length then (cntI d.s d.c).toNat else 0
def acc (d : Hd) (k : Nat) : Bool := decide (Pk.endE (hsR k d.l d.e).2.1 (hsR k d.l d.e).2.2 = 0) && chkB d.v d.s d.c d.h d.t (hsR k d.l d.e).1
/-- Bytes read as a bill, or as none. -/
def rdIs (l : List UInt8) (w : World) (e : Ending) (w' : World) : Prop :=
  (acc (hdR l) (kP (hdR l)) = true → BilIs (hdR l).v (hdR l).s (hdR l).c (hdR l).h (hdR l).t (hsR (kP (hdR l)) (hdR l).l (hdR l).e).1 0 w e w') ∧
  (acc (hdR l) (kP (hdR l)) = false → BilIs 0 0 0 ⟨#[]⟩ ⟨#[]⟩ [] 3 w e w')
/-- A reader that was there, and a new result's block. -/
structure TL (w0 : World) (tR : TypeId) (r b : Nat) (l : List UInt8) (e : Int) (w : World) : Prop where
  res : BAt w r 0 0 0 ⟨#[]⟩ ⟨#[]⟩ (.slice none 0 0)
  nx : Pk.RNext w0 b tR l e w
  rge : w0.heap.size ≤ r
  blt : b < w0.heap.size
theorem TL.step {w0 w w' : World} {tR : TypeId} {r b : Nat} {l l2 : List UInt8} {e e2 : Int} (h : TL w0 tR r b l e w) (hn : Pk.RNext w b tR l2 e2 w') : TL w0 tR r b l2 e2 w' :=
  ⟨hn.chg.blk h.res (fun e => by have := h.rge; have := h.blt; have e : r = b := e; omega), h.nx.trans hn, h.rge, h.blt⟩
theorem TL.fin {w0 w : World} {tR : TypeId} {r b : Nat} {l : List UInt8} {e : Int} (h : TL w0 tR r b l e w) {v s c : Int} {hh t : ByteArray} {x : Value} : BAt (put6 w r v s c hh t x) r v s c hh t x ∧ Pk.RNext w0 b tR l e (put6 w r v s c hh t x) := by
  obtain ⟨h1, h2⟩ := h.res.put (v' := v) (s' := s) (c' := c) (h' := hh) (t' := t) (x' := x)
  exact ⟨h1, h2.blk h.nx.at_ (fun e => by have := h.rge; have := h.blt; have e : b = r := e; omega), h.nx.chg.trans h2 fun i hi e => by have := h.rge; have e : i = r := e; omega⟩
set_option maxHeartbeats 3200000 in
set_option maxRecDepth 100000 in
theorem takeleaf_any (b : Nat) (l : List UInt8) (w : World) (hR : Pk.RAt w b 107 l 0) :
    Calls Tryz.prog 26 #[.pointer (some ⟨b, 0, none⟩)] w fun e w' => e = .returned (.agg #[.int .i64 (hdR l).v, .int .i64 (hdR l).s, .int .i64 (hdR l).c, .string (hdR l).h, .string (hdR l).t, .slice none 0 0]) ∧ Pk.RNext w b 107 (hdR l).l (hdR l).e w' := by
  have hblt : b < w.heap.size := Pk.Blk.lt hR
  have hT : TL w 107 w.heap.size b l 0 (w.alloc (.cells #[.int .i64 0, .int .i64 0, .int .i64 0, .string ⟨#[]⟩, .string ⟨#[]⟩, .slice none 0 0] 37)) :=
    ⟨BAt.new w _ _ _ _ _ _, ⟨(chgB (S := fun _ => False) (bel_alloc w _)).blk hR fun h => h, (Pk.Chg.refl _ _).alloc _⟩, Nat.le_refl _, hblt⟩
  obtain ⟨X1, X2, X3, X4, X5, e1, e2, e3, e4, e5, e6⟩ := hd_steps l
  rw [e6]
  clear e6
  obtain ⟨w1, hw1⟩ : ∃ W, w.alloc (.cells #[.int .i64 0, .int .i64 0, .int .i64 0, .string ⟨#[]⟩, .string ⟨#[]⟩, .slice none 0 0] 37) = W := ⟨_, rfl⟩
  rw [hw1] at hT
  obtain ⟨r, hr⟩ : ∃ r, w.heap.size = r := ⟨_, rfl⟩
  rw [hr] at hT
  have c1 := Pk.rbyte_any b l 0 w1 hT.nx.at_
  rw [e1] at c1
  have c2 := Box.mk fun w' (hT : TL w 107 r b X1.2.1 X1.2.2 w') => Pk.rfour_any b X1.2.1 X1.2.2 w' hT.nx.at_
  rw [e2] at c2
  have c3 := Box.mk fun w' (hT : TL w 107 r b X2.2.1 X2.2.2 w') => Pk.rtwo_any b X2.2.1 X2.2.2 w' hT.nx.at_
  rw [e3] at c3
  have c4 := Box.mk fun w' (hT : TL w 107 r b X3.2.1 X3.2.2 w') => Pk.rhash_any b X3.2.1 X3.2.2 w' hT.nx.at_
  rw [e4] at c4
  have c5 := Box.mk fun w' (hT : TL w 107 r b X4.2.1 X4.2.2 w') => Pk.rhash_any b X4.2.1 X4.2.2 w' hT.nx.at_
  rw [e5] at c5
  obtain ⟨v, ⟨l1, f1⟩⟩ := X1
  obtain ⟨s, ⟨l2, f2⟩⟩ := X2
  obtain ⟨c, ⟨l3, f3⟩⟩ := X3
  obtain ⟨h, ⟨l4, f4⟩⟩ := X4
  obtain ⟨t, ⟨l5, f5⟩⟩ := X5
  dsimp only at c1 c2 c3 c4 c5 ⊢
  obtain ⟨H, hH⟩ : ∃ H, Pk.btx h = H := ⟨_, rfl⟩
  obtain ⟨T, hTT⟩ : ∃ T, Pk.btx t = T := ⟨_, rfl⟩
  rw [hH] at c4 ⊢
  rw [hTT] at c5 ⊢
  replace hT := Box.mk hT
  clear hH hTT e1 e2 e3 e4 e5 hR hblt
  go_enter Tryz.func26, Tryz.ntmps26
  go_wp2_with fail
  refine c1.mono ?_
  clear c1
  rintro e w2 ⟨rfl, hn⟩
  replace hT := Box.mk (hT.out.step hn)
  have c1 := c2.out w2 hT.out
  clear c2 hn hw1
  go_wp2_with fail
  refine c1.mono ?_
  clear c1
  rintro e w3 ⟨rfl, hn⟩
  replace hT := Box.mk (hT.out.step hn)
  have c1 := c3.out w3 hT.out
  clear c3 hn
  go_wp2_with fail
  refine c1.mono ?_
  clear c1
  rintro e w4 ⟨rfl, hn⟩
  replace hT := Box.mk (hT.out.step hn)
  have c1 := c4.out w4 hT.out
  clear c4 hn
  go_wp2_with fail
  refine c1.mono ?_
  clear c1
  rintro e w5 ⟨rfl, hn⟩
  replace hT := Box.mk (hT.out.step hn)
  have c1 := c5.out w5 hT.out
  clear c5 hn
  go_wp2_with fail
  refine c1.mono ?_
  clear c1
  rintro e w6 ⟨rfl, hn⟩
  replace hT := Box.mk (hT.out.step hn)
  clear hn
  obtain ⟨g0, g1, g2, g3, g4, g5⟩ := hT.out.res.frees
  obtain ⟨r0, r1, r2, r3, r4, r5⟩ := hT.out.res.cells
  go_wp2_with fail
  obtain ⟨k1, k2⟩ := hT.out.fin (v := v) (s := s) (c := c) (hh := H) (t := T) (x := .slice none 0 0)
  show bodyPost _ _ _ _ _ (put6 w6 r v s c H T (.slice none 0 0))
  clear g0 g1 g2 g3 g4 g5 r0 r1 r2 r3 r4 r5
  obtain ⟨q0, q1, q2, q3, q4, q5⟩ := k1.cells
  obtain ⟨W, hW⟩ : ∃ W, put6 w6 r v s c H T (.slice none 0 0) = W := ⟨_, rfl⟩
  rw [hW] at q0 q1 q2 q3 q4 q5 k2 ⊢
  exact bodyPost_ret (v := .agg #[.int .i64 v, .int .i64 s, .int .i64 c, .string H, .string T, .slice none 0 0]) (by simp [results, Tryz.results26, go_sem, q0, q1, q2, q3, q4, q5]; try rfl) rfl ⟨rfl, k2⟩
/-- A row of texts that is being filled, the reader beside. -/
structure RP (w1 : World) (b g n : Nat) (xs : List Value) (l : List UInt8) (er : Int) (w' : World) : Prop where
  row : Pk.Row w' 9 1 (.slice (some ⟨g, 0, none⟩) n n) n xs
  own : w1.heap.size ≤ g
  nx : Pk.RNext w1 b 107 l er w'
  blt : b < w1.heap.size
theorem RP.next {w0 w1 w2 : World} {b g n : Nat} {xs : List Value} {l l2 : List UInt8} {er er2 : Int} (h : RP w0 b g n xs l er w1) (hn : Pk.RNext w1 b 107 l2 er2 w2) : RP w0 b g n xs l2 er2 w2 :=
  ⟨h.row.chg hn.chg fun k hk ee => by have hk2 : g = k := (by simpa [Value.ownBlock] using hk); have := h.own; have := h.blt; have ee : k = b := ee; omega, h.own, h.nx.trans hn, h.blt⟩
theorem rowput {w : World} {e : TypeId} {size g n c : Nat} {xs : List Value} (h : Pk.Row w e size (.slice (some ⟨g, 0, none⟩) n c) n xs) (j : Nat) (u : Value) : Pk.Row (w.setCell ⟨g, j, none⟩ u) e size (.slice (some ⟨g, 0, none⟩) n c) n (xs.set j u) := by
  obtain ⟨hx, ⟨h0, _⟩ | ⟨g2, cap, cur, e1, b1, hg, k1, k2, k3, k4⟩⟩ := h
  · cases h0
  · cases e1
    refine ⟨by rw [List.length_set]; exact hx, .inr ⟨g, c, cur.setIfInBounds j u, rfl, b1, heap_setCell_same w g j cur e u hg, k1, k2, by simpa using k3, ?_⟩⟩
    rw [Array.toList_setIfInBounds, List.take_set, k4]
theorem rowfree {w : World} {e : TypeId} {size g n c : Nat} {xs : List Value} (h : Pk.Row w e size (.slice (some ⟨g, 0, none⟩) n c) n xs) (j : Nat) : w.frozen? ⟨g, j, none⟩ = false := by
  obtain ⟨_, ⟨h0, _⟩ | ⟨g2, cap, cur, e1, b1, hg, _⟩⟩ := h
  · cases h0
  · cases e1
    exact frozen_of_row w g j cur _ hg
theorem RP.put {w0 w1 : World} {b g n : Nat} {xs : List Value} {l : List UInt8} {er : Int} (h : RP w0 b g n xs l er w1) (j : Nat) (u : Value) : RP w0 b g n (xs.set j u) l er (w1.setCell ⟨g, j, none⟩ u) := by
  have hc : Pk.Chg (fun i => i = g) w1 (w1.setCell ⟨g, j, none⟩ u) := (Pk.Chg.refl (fun i => i = g) w1).setCell (p := ⟨g, j, none⟩) rfl u
  exact ⟨rowput h.row j u, h.own, ⟨hc.blk h.nx.at_ (fun e => by have := h.own; have := h.blt; have e : b = g := e; omega), h.nx.chg.trans hc fun i hi e => by have := h.own; have e : i = g := e; omega⟩, h.blt⟩
theorem setone (a r : List Value) (x u : Value) (j : Nat) (hj : a.length = j) : (a ++ (u :: r)).set j x = a ++ [x] ++ r := by
  subst hj
  simp
set_option maxHeartbeats 3200000 in
set_option maxRecDepth 100000 in
theorem takechunks_any (b n : Nat) (l : List UInt8) (er : Int) (w : World) (hR : Pk.RAt w b 107 l er) (hn : n ≤ 128) :
    Calls Tryz.prog 29 #[.pointer (some ⟨b, 0, none⟩), .int .i64 (n : Int)] w fun e w' => ∃ v, e = .returned v ∧ TxR w.heap.size w' v (hsR n l er).1 ∧ Pk.RNext w b 107 (hsR n l er).2.1 (hsR n l er).2.2 w' := by
  have hblt : b < w.heap.size := Pk.Blk.lt hR
  obtain ⟨i0, hi0, hz0, hz1, hz2⟩ := info_parts info_s
  have hH := Box.mk (And.intro hi0 (And.intro hz0 (And.intro hz1 hz2)))
  replace hR := Box.mk hR
  replace hblt := Box.mk hblt
  clear hi0 hz0 hz1 hz2
  go_enter Tryz.func29, Tryz.ntmps29
  go_wp2_with (at_make; refine wpList_make_full _ rfl (.tmp 7) (.tmp 7) 35 rfl 0 9 i0 (.string ⟨#[]⟩) 1 Tryz.underlying35 hH.out.1 hH.out.2.1 hH.out.2.2.1 .i64 .i64 _ _ n rfl rfl rfl rfl (by rw [hH.out.2.2.2]; omega) (by unfold maxLen; omega) (Nat.zero_le _) ?_; intro w4 hown hg; replace hown := Box.mk hown; replace hg := Box.mk hg)
  have hb4 : Below w.heap.size w w4 := ⟨hg.out.os, hg.out.tape, hg.out.output, hg.out.size, fun k hk => hg.out.block k hk (by simp)⟩
  obtain ⟨g, hge⟩ : ∃ g, w.heap.size = g := ⟨_, rfl⟩
  have hA0 : Box (∃ rest, rest.length = n - 0 ∧ RP w b g n ((hsR 0 l er).1.map Value.string ++ rest) (hsR 0 l er).2.1 (hsR 0 l er).2.2 w4) := ⟨by
    have hr := hown.out
    rw [hge] at hr
    refine ⟨_, by simpa using hr.1, hr, by omega, ⟨(chgB (S := fun _ => False) hb4).blk hR.out fun h => h, chgB hb4⟩, hblt.out⟩⟩
  rw [hge]
  have hgeB := Box.mk hge
  clear hown hg hb4 hH hge
  go_wp2_with fail
  go_loopw [11] (fun q wr => ∃ i : Nat, i ≤ n ∧ q = .int .i64 (i : Int) ∧ Box (∃ rest, rest.length = n - i ∧ RP w b g n ((hsR i l er).1.map Value.string ++ rest) (hsR i l er).2.1 (hsR i l er).2.2 wr)) (fun q _ => n - (intOf q).toNat)
  case atStart => exact ⟨0, by omega, rfl, hA0⟩
  case round =>
    clear hA0
    obtain ⟨i, hi, rfl, hA⟩ := hrel
    by_cases hlt : i < n
    · obtain ⟨rest, hrl, hA1⟩ := hA.out
      have hsl := hsR_len i l er
      obtain ⟨R, hRe⟩ : ∃ R, hsR i l er = R := ⟨_, rfl⟩
      have hnx : hsR (i + 1) l er = (R.1 ++ [Pk.btx (Pk.rawR 32 R.2.1 R.2.2).1], (Pk.rawR 32 R.2.1 R.2.2).2.1, (Pk.rawR 32 R.2.1 R.2.2).2.2) := by rw [← hRe]; rfl
      rw [hRe] at hA1 hsl
      obtain ⟨u, rest2, rfl⟩ : ∃ u r2, rest = u :: r2 := by
        match rest, hrl with
        | [], h => simp at h; omega
        | u :: r2, _ => exact ⟨u, r2, rfl⟩
      have hrl2 : Box (rest2.length = n - (i + 1)) := ⟨by simp at hrl; omega⟩
      have hcl : (R.1.map Value.string).length = i := by rw [List.length_map, hsl]
      have hg1 : (R.1.map Value.string ++ u :: rest2)[i]? = some u := by rw [List.getElem?_append_right (by omega), hcl]; simp
      have h1 := Pk.rhash_any b R.2.1 R.2.2 wr hA1.nx.at_
      obtain ⟨X, hX⟩ : ∃ X, Pk.rawR 32 R.2.1 R.2.2 = X := ⟨_, rfl⟩
      rw [hX] at h1 hnx
      obtain ⟨x, hx⟩ : ∃ x, Pk.btx X.1 = x := ⟨_, rfl⟩
      rw [hx] at h1 hnx
      have hnxB := Box.mk hnx
      have hg1B := Box.mk hg1
      have hclB := Box.mk hcl
      have hA1B := Box.mk hA1
      have hii : (i : Int) < (n : Int) := by omega
      clear hA hRe hnx hX hsl hrl hcl hg1 hA1 hx
      go_wp2_with fail
      refine h1.mono ?_
      clear h1
      rintro r w5 ⟨rfl, h5⟩
      have hA5 := hA1B.out.next h5
      have k1 := hA5.row.cells _ _ hg1B.out
      have g1 := rowfree hA5.row i
      have hA6 := hA5.put i (.string x)
      rw [setone _ _ _ _ _ hclB.out] at hA6
      obtain ⟨w6, hw6⟩ : ∃ w6, w5.setCell ⟨g, i, none⟩ (.string x) = w6 := ⟨_, rfl⟩
      rw [hw6] at hA6
      have hA8 : Box (∃ rest, rest.length = n - (i + 1) ∧ RP w b g n ((hsR (i + 1) l er).1.map Value.string ++ rest) (hsR (i + 1) l er).2.1 (hsR (i + 1) l er).2.2 w6) := ⟨rest2, hrl2.out, by rw [hnxB.out]; simpa using hA6⟩
      clear h5 hA5 hA6 hA1B
      go_wp2_with fail
      exact ⟨⟨i + 1, by omega, by go_num, hA8⟩, by simp [intOf]; omega⟩
    · obtain rfl : i = n := by omega
      have hnl : ¬ (i : Int) < (i : Int) := by omega
      obtain ⟨rest, hrl, hA1⟩ := hA.out
      obtain rfl : rest = [] := List.length_eq_zero_iff.1 (by rw [hrl]; simp)
      rw [List.append_nil] at hA1
      replace hA1 := Box.mk hA1
      have hsl := Box.mk (hsR_len i l er)
      clear hA
      go_wp2_with fail
      go_ret
      refine ⟨_, rfl, TxR.of_row ?_ fun k hk => ?_, hA1.out.nx⟩
      · rw [hsl.out]; exact hA1.out.row
      · cases hk; exact Nat.le_of_eq hgeB.out
/-- Read's three blocks beside each other: the result, the reader, the bill. -/
structure RX (w0 : World) (tR : TypeId) (r rb g : Nat) (v s c : Int) (h t : ByteArray) (x : Value) (L : List ByteArray) (l : List UInt8) (e : Int) (w : World) : Prop where
  res : BAt w r 0 0 0 ⟨#[]⟩ ⟨#[]⟩ (.slice none 0 0)
  rd : Pk.RAt w rb tR l e
  bill : BAt w g v s c h t x
  row : TxR w0.heap.size w x L
  ne1 : r ≠ g
  ne2 : r ≠ rb
  ne3 : g ≠ rb
  b1 : w0.heap.size ≤ r
  b2 : w0.heap.size ≤ rb
  b3 : w0.heap.size ≤ g
  ht : tR ≠ 9
  bel : Below w0.heap.size w0 w
section
variable {w0 w w2 : World} {tR : TypeId} {r rb g : Nat} {v s c : Int} {h t : ByteArray} {x : Value} {L : List ByteArray} {l : List UInt8} {e : Int}
theorem RX.apart (hX : RX w0 tR r rb g v s c h t x L l e w) : x.ownBlock ≠ some g ∧ x.ownBlock ≠ some r ∧ x.ownBlock ≠ some rb :=
  ⟨Pk.Row.apart (hX.row.base (Nat.zero_le _)) hX.bill (by decide), Pk.Row.apart (hX.row.base (Nat.zero_le _)) hX.res (by decide), Pk.Row.apart (hX.row.base (Nat.zero_le _)) (show Pk.Blk w rb _ _ from hX.rd) hX.ht⟩
theorem RX.here (hX : RX w0 tR r rb g v s c h t x L l e w) (hb : Below w.heap.size w w2) : RX w0 tR r rb g v s c h t x L l e w2 :=
  ⟨hX.res.here hb, (chgB (S := fun _ => False) hb).blk hX.rd fun h => h, hX.bill.here hb, hX.row.here hb, hX.ne1, hX.ne2, hX.ne3, hX.b1, hX.b2, hX.b3, hX.ht, mono_bel hX.bel hb (Nat.le_refl _)⟩
theorem RX.next {l2 : List UInt8} {e2 : Int} (hX : RX w0 tR r rb g v s c h t x L l e w) (hn : Pk.RNext w rb tR l2 e2 w2) : RX w0 tR r rb g v s c h t x L l2 e2 w2 :=
  ⟨hn.chg.blk hX.res hX.ne2, hn.at_, hn.chg.blk hX.bill hX.ne3, hX.row.chg hn.chg fun k hk e => hX.apart.2.2 (by rw [hk, e]), hX.ne1, hX.ne2, hX.ne3, hX.b1, hX.b2, hX.b3, hX.ht, hX.bel.trans (hn.chg.below hX.bel.size fun _ hi => hi ▸ hX.b2)⟩
/-- Another row in the bill's last cell. -/
theorem RX.row5 {x' : Value} {L' : List ByteArray} (hX : RX w0 tR r rb g v s c h t x L l e w) (hr : TxR w0.heap.size w x' L') : RX w0 tR r rb g v s c h t x' L' l e (w.setCell ⟨g, 5, none⟩ x') := by
  have hc : Pk.Chg (fun i => i = g) w (w.setCell ⟨g, 5, none⟩ x') := (Pk.Chg.refl (fun i => i = g) w).setCell (p := ⟨g, 5, none⟩) rfl x'
  have hv2 : x'.ownBlock ≠ some g := Pk.Row.apart (hr.base (Nat.zero_le _)) hX.bill (by decide)
  exact ⟨hc.blk hX.res hX.ne1, hc.blk hX.rd (fun e => hX.ne3 e.symm), Pk.Blk.setCell hX.bill 5 x', hr.chg hc fun k hk e => hv2 (by rw [hk, e]), hX.ne1, hX.ne2, hX.ne3, hX.b1, hX.b2, hX.b3, hX.ht, hX.bel.trans (hc.below hX.bel.size fun _ hi => hi ▸ hX.b3)⟩
theorem RX.fin {v' s' c' : Int} {h' t' : ByteArray} {x' : Value} (hX : RX w0 tR r rb g v s c h t x L l e w) :
    BAt (put6 w r v' s' c' h' t' x') r v' s' c' h' t' x' ∧ TxR w0.heap.size (put6 w r v' s' c' h' t' x') x L ∧ Below w0.heap.size w0 (put6 w r v' s' c' h' t' x') := by
  obtain ⟨h1, h2⟩ := hX.res.put (v' := v') (s' := s') (c' := c') (h' := h') (t' := t') (x' := x')
  exact ⟨h1, hX.row.chg h2 fun k hk e => hX.apart.2.1 (by rw [hk, e]), hX.bel.trans (h2.below hX.bel.size fun _ hi => hi ▸ hX.b1)⟩
end
theorem acc_num {d : Hd} {k : Nat} (h : numB d.v d.s d.c = false) : acc d k = false := by
  unfold acc chkB; rw [h]; simp
theorem acc_end {d : Hd} {k : Nat} (h : Pk.endE (hsR k d.l d.e).2.1 (hsR k d.l d.e).2.2 ≠ 0) : acc d k = false := by
  unfold acc; rw [decide_eq_false h]; rfl
theorem acc_chk {d : Hd} {k : Nat} (h : chkI d.v d.s d.c d.h d.t (hsR k d.l d.e).1 ≠ 0) : acc d k = false := by
  unfold acc
  unfold chkI at h
  cases hc : chkB d.v d.s d.c d.h d.t (hsR k d.l d.e).1 with
  | false => simp
  | true => rw [hc] at h; exact absurd rfl h
theorem acc_yes {d : Hd} {k : Nat} (h : Pk.endE (hsR k d.l d.e).2.1 (hsR k d.l d.e).2.2 = 0) (h2 : chkI d.v d.s d.c d.h d.t (hsR k d.l d.e).1 = 0) : acc d k = true := by
  unfold acc
  rw [decide_eq_true h]
  unfold chkI at h2
  cases hc : chkB d.v d.s d.c d.h d.t (hsR k d.l d.e).1 with
  | false => rw [hc] at h2; simp at h2
  | true => rfl
end Go.Proofs.YthkfefkcjcgfkaaGreatDoor.Bi

namespace Go.Proofs.YthkfefkcjcgfkaaGreatDoor.Bi
open Go Go.RowKit Go.Proofs.YthkfefkcjcgfkaaGreatDoor
set_option linter.all false

theorem rd_to (l : List UInt8) (d : Hd) (hd : hdR l = d) (w w' : World) (e : Ending) :
    (acc d (kP d) = true → BilIs d.v d.s d.c d.h d.t (hsR (kP d) d.l d.e).1 0 w e w' → rdIs l w e w') ∧ (acc d (kP d) = false → BilIs 0 0 0 ⟨#[]⟩ ⟨#[]⟩ [] 3 w e w' → rdIs l w e w') := by
  subst hd
  exact ⟨fun h1 h2 => ⟨fun _ => h2, fun h => (by rw [h1] at h; cases h)⟩, fun h1 h2 => ⟨fun h => (by rw [h1] at h; cases h), fun _ => h2⟩⟩
set_option maxHeartbeats 6400000 in
set_option maxRecDepth 100000 in
theorem read_any (x : ByteArray) (w : World) (hK : KIs w) :
    Calls Tryz.prog 8 #[.string x] w (rdIs x.data.toList w) := by
  have hz : Box (BAt (w.alloc (.cells #[.int .i64 0, .int .i64 0, .int .i64 0, .string ⟨#[]⟩, .string ⟨#[]⟩, .slice none 0 0] 37)) w.heap.size 0 0 0 ⟨#[]⟩ ⟨#[]⟩ (.slice none 0 0)) := ⟨BAt.new w _ _ _ _ _ _⟩
  have hKB := Box.mk fun w' (hx : Below w.heap.size w w') => (hK.below hx hK.lt : KIs w')
  have hbz := Box.mk (bel_alloc w (.cells #[.int .i64 0, .int .i64 0, .int .i64 0, .string ⟨#[]⟩, .string ⟨#[]⟩, .slice none 0 0] 37))
  obtain ⟨l, hl⟩ : ∃ l, x.data.toList = l := ⟨_, rfl⟩
  rw [hl]
  obtain ⟨d, hd⟩ : ∃ d, hdR l = d := ⟨_, rfl⟩
  have hRI := Box.mk fun w' e => rd_to l d hd w w' e
  have hTk := Box.mk fun b w' hR => takeleaf_any b l w' hR
  rw [hd] at hTk
  have haN := Box.mk (acc_num (d := d) (k := kP d))
  have haE := Box.mk (acc_end (d := d) (k := kP d))
  have haC := Box.mk (acc_chk (d := d) (k := kP d))
  have haY := Box.mk (acc_yes (d := d) (k := kP d))
  have hkp : Box (kP d = if 0 < d.l.length then (cntI d.s d.c).toNat else 0) := ⟨rfl⟩
  have hsl := Box.mk fun k => hsR_len k d.l d.e
  obtain ⟨w1, hw1⟩ : ∃ W, w.alloc (.cells #[.int .i64 0, .int .i64 0, .int .i64 0, .string ⟨#[]⟩, .string ⟨#[]⟩, .slice none 0 0] 37) = W := ⟨_, rfl⟩
  rw [hw1] at hz hbz
  obtain ⟨r, hr⟩ : ∃ r, w.heap.size = r := ⟨_, rfl⟩
  rw [hr] at hz
  have hrw := Box.mk hr
  have h1 := Pk.read_new x w1
  rw [hl] at h1
  clear hl hd hK
  obtain ⟨v, s, c, h, t, l0, e0⟩ := d
  dsimp only at hTk haN haE haC haY hkp hsl hRI
  obtain ⟨rb, hrb⟩ : ∃ rb, w1.heap.size = rb := ⟨_, rfl⟩
  rw [hrb] at h1
  have hrbw : Box (w1.heap.size = rb) := ⟨hrb⟩
  go_enter Tryz.func8, Tryz.ntmps8
  go_wp2_with fail
  refine h1.mono ?_
  clear h1 hrb hw1
  rintro e w2 ⟨rfl, hR2, hb2⟩
  have h1 := hTk.out rb w2 hR2
  have hz2 := Box.mk (hz.out.here (hrbw.out ▸ hb2))
  have hb2w := Box.mk (mono_bel hbz.out (hrbw.out ▸ hb2) (Nat.le_refl _))
  have hrr : Box (r < rb) := ⟨by rw [← hrbw.out]; exact Pk.Blk.lt hz.out⟩
  have hrl : Box (w.heap.size ≤ rb) := ⟨by rw [← hrbw.out]; exact hbz.out.size⟩
  clear hTk hR2 hb2
  go_wp2_with fail
  refine h1.mono ?_
  clear h1
  rintro e w3 ⟨rfl, hn3⟩
  have hX0 : Box (RX w 107 r rb w3.heap.size v s c h t (.slice none 0 0) [] l0 e0 (w3.alloc (.cells #[.int .i64 v, .int .i64 s, .int .i64 c, .string h, .string t, .slice none 0 0] 37))) := ⟨by
    have hz3 : BAt w3 r 0 0 0 ⟨#[]⟩ ⟨#[]⟩ (.slice none 0 0) := hn3.chg.blk hz2.out (fun e => by have := hrr.out; have e : r = rb := e; omega)
    have hb3 : Below w.heap.size w w3 := hb2w.out.trans (hn3.chg.below hb2w.out.size fun i hi => by have hi : i = rb := hi; rw [hi]; exact hrl.out)
    have hl1 := Pk.Blk.lt hz3
    have hl2 := Pk.Blk.lt (show Pk.Blk w3 rb _ _ from hn3.at_)
    exact ⟨hz3.here (bel_alloc _ _), (chgB (S := fun _ => False) (bel_alloc w3 _)).blk hn3.at_ fun h => h, BAt.new w3 _ _ _ _ _ _, TxR.nil _ _, by omega, (by have := hrr.out; omega), by omega, (by rw [hrw.out]; exact Nat.le_refl _), hrl.out, hb3.size, by decide, mono_bel hb3 (bel_alloc _ _) (Nat.le_refl _)⟩⟩
  have h1 := numbers_any v s c h t none 0 0 (w3.alloc (.cells #[.int .i64 v, .int .i64 s, .int .i64 c, .string h, .string t, .slice none 0 0] 37))
  obtain ⟨g, hg⟩ : ∃ g, w3.heap.size = g := ⟨_, rfl⟩
  rw [hg] at hX0
  clear hn3 hz hz2 hb2w hrr hrl hbz
  cases hN : numB v s c
  · have hAc := Box.mk (haN.out hN)
    rw [hN] at h1
    clear hN
    go_wp2_with fail
    refine h1.mono ?_
    clear h1
    rintro e w4 ⟨rfl, hb4⟩
    have hX := Box.mk (hX0.out.here hb4)
    clear hb4 hX0 hg
    obtain ⟨g0, g1, g2, g3, g4, g5⟩ := hX.out.res.frees
    obtain ⟨r0, r1, r2, r3, r4, r5⟩ := hX.out.res.cells
    go_wp2_with fail
    obtain ⟨k1, _, k3⟩ := hX.out.fin (v' := 0) (s' := 0) (c' := 0) (h' := ⟨#[]⟩) (t' := ⟨#[]⟩) (x' := .slice none 0 0)
    show bodyPost _ _ _ _ _ (put6 w4 r 0 0 0 ⟨#[]⟩ ⟨#[]⟩ (.slice none 0 0))
    clear g0 g1 g2 g3 g4 g5 r0 r1 r2 r3 r4 r5
    obtain ⟨q0, q1, q2, q3, q4, q5⟩ := k1.cells
    obtain ⟨W, hW⟩ : ∃ W, put6 w4 r 0 0 0 ⟨#[]⟩ ⟨#[]⟩ (.slice none 0 0) = W := ⟨_, rfl⟩
    rw [hW] at q0 q1 q2 q3 q4 q5 k3 ⊢
    refine bodyPost_ret (v := .tuple #[.agg #[.int .i64 0, .int .i64 0, .int .i64 0, .string ⟨#[]⟩, .string ⟨#[]⟩, .slice none 0 0], .int .i64 3]) (by simp [results, Tryz.results8, go_sem, q0, q1, q2, q3, q4, q5]; try rfl) rfl (hRI.out W _ |>.2 hAc.out ⟨_, rfl, TxR.nil _ _, k3⟩)
  · obtain ⟨m, hm, hm1, hm2, _, _⟩ := cnt_nat hN
    have hct := Box.mk fun w' => count_any v s c h t none 0 0 w' m hN hm
    rw [hN] at h1
    have hkp2 : Box (kP ⟨v, s, c, h, t, l0, e0⟩ = if 0 < l0.length then m else 0) := ⟨by rw [hkp.out, hm, Int.toNat_natCast]⟩
    clear hN hm hkp haN
    go_wp2_with fail
    refine h1.mono ?_
    clear h1
    rintro e w4 ⟨rfl, hb4⟩
    have hX := Box.mk (hX0.out.here hb4)
    clear hb4 hX0 hg
    have h1 := Pk.left_any rb l0 e0 w4 hX.out.rd
    by_cases hl0 : 0 < l0.length
    · have hk : kP ⟨v, s, c, h, t, l0, e0⟩ = m := by rw [hkp2.out, if_pos hl0]
      rw [hk] at haE haC haY hRI
      have hsm := hsl.out m
      obtain ⟨L, hL⟩ : ∃ L, (hsR m l0 e0).1 = L := ⟨_, rfl⟩
      obtain ⟨l2, hl2⟩ : ∃ l2, (hsR m l0 e0).2.1 = l2 := ⟨_, rfl⟩
      obtain ⟨e2, he2⟩ : ∃ e2, (hsR m l0 e0).2.2 = e2 := ⟨_, rfl⟩
      have h2 := Box.mk fun w' hR => takechunks_any rb m l0 e0 w' hR hm2
      rw [hL, hl2, he2] at h2
      rw [hL] at hsm
      have hkE : Box (Pk.endE l2 e2 ≠ 0 → acc ⟨v, s, c, h, t, l0, e0⟩ m = false) := ⟨fun h => haE.out (by rw [hl2, he2]; exact h)⟩
      have hkC : Box (chkI v s c h t L ≠ 0 → acc ⟨v, s, c, h, t, l0, e0⟩ m = false) := ⟨fun h => haC.out (by rw [hL]; exact h)⟩
      have hkY : Box (Pk.endE l2 e2 = 0 → chkI v s c h t L = 0 → acc ⟨v, s, c, h, t, l0, e0⟩ m = true ∧ (hsR m l0 e0).1 = L) := ⟨fun h1 h2 => ⟨haY.out (by rw [hl2, he2]; exact h1) (by rw [hL]; exact h2), hL⟩⟩
      have hgt : ((l0.length : Nat) : Int) > 0 := by omega
      replace hsm := Box.mk hsm
      clear hk hkp2 haE haC haY hsl hL hl2 he2
      go_wp2_with fail
      refine h1.mono ?_
      clear h1
      rintro e w5 ⟨rfl, h5⟩
      subst h5
      obtain ⟨q0, q1, q2, q3, q4, q5⟩ := hX.out.bill.cells
      have h1 := hct.out w4
      go_wp2_with fail
      refine h1.mono ?_
      clear h1 hct q0 q1 q2 q3 q4 q5
      rintro e w6 ⟨rfl, hb6⟩
      replace hX := Box.mk (hX.out.here hb6)
      clear hb6
      have h1 := h2.out w6 hX.out.rd
      clear h2
      go_wp2_with fail
      refine h1.mono ?_
      clear h1
      rintro e w7 ⟨y, rfl, hT7, hn7⟩
      have hT8 := hT7.base hX.out.bel.size
      replace hX := Box.mk (hX.out.next hn7)
      obtain ⟨a, kk, rfl⟩ := hT8.shape
      rw [hsm.out] at hT8 ⊢
      have hX8 := Box.mk (hX.out.row5 hT8)
      obtain ⟨w8, hw8⟩ : ∃ W, w7.setCell ⟨g, 5, none⟩ (.slice a m kk) = W := ⟨_, rfl⟩
      rw [hw8] at hX8
      obtain ⟨q0, q1, q2, q3, q4, q5⟩ := hX.out.bill.cells
      obtain ⟨f0, f1, f2, f3, f4, f5⟩ := hX.out.bill.frees
      clear q0 q1 q2 q3 q4 f0 f1 f2 f3 f4 hX hT7 hT8 hn7
      have hX := hX8
      clear hX8
      have h1 := Pk.end_any rb l2 e2 w8 hX.out.rd
      by_cases hE : Pk.endE l2 e2 = 0
      · rw [hE] at h1
        go_wp2_with fail
        clear q5 f5 hw8
        refine h1.mono ?_
        clear h1
        rintro e w10 ⟨rfl, hn10⟩
        replace hX := Box.mk (hX.out.next hn10)
        clear hn10
        obtain ⟨q0, q1, q2, q3, q4, q5⟩ := hX.out.bill.cells
        have h1 := check_any v s c h t a m kk L w10 (txPA hX.out.row hsm.out) (hKB.out w10 hX.out.bel)
        by_cases hC : chkI v s c h t L = 0
        · rw [hC] at h1
          have hAc := Box.mk (hkY.out hE hC)
          clear hE hC
          go_wp2_with fail
          refine h1.mono ?_
          clear h1 q0 q1 q2 q3 q4 q5
          rintro e w11 ⟨rfl, hb11⟩
          replace hX := Box.mk (hX.out.here hb11)
          clear hb11
          obtain ⟨q0, q1, q2, q3, q4, q5⟩ := hX.out.bill.cells
          obtain ⟨g0, g1, g2, g3, g4, g5⟩ := hX.out.res.frees
          obtain ⟨r0, r1, r2, r3, r4, r5⟩ := hX.out.res.cells
          go_wp2_with fail
          obtain ⟨k1, k2, k3⟩ := hX.out.fin (v' := v) (s' := s) (c' := c) (h' := h) (t' := t) (x' := .slice a m kk)
          show bodyPost _ _ _ _ _ (put6 w11 r v s c h t (.slice a m kk))
          clear q0 q1 q2 q3 q4 q5 g0 g1 g2 g3 g4 g5 r0 r1 r2 r3 r4 r5
          obtain ⟨q0, q1, q2, q3, q4, q5⟩ := k1.cells
          obtain ⟨W, hW⟩ : ∃ W, put6 w11 r v s c h t (.slice a m kk) = W := ⟨_, rfl⟩
          rw [hW] at q0 q1 q2 q3 q4 q5 k2 k3 ⊢
          refine bodyPost_ret (v := .tuple #[.agg #[.int .i64 v, .int .i64 s, .int .i64 c, .string h, .string t, .slice a m kk], .int .i64 0]) (by simp [results, Tryz.results8, go_sem, q0, q1, q2, q3, q4, q5]; try rfl) rfl (hRI.out W _ |>.1 hAc.out.1 (by rw [hAc.out.2]; exact ⟨_, rfl, k2, k3⟩))
        · have hAc := Box.mk (hkC.out hC)
          obtain ⟨I, hI⟩ : ∃ I, chkI v s c h t L = I := ⟨_, rfl⟩
          rw [hI] at h1 hC
          have hC0 : (I != 0) = true := by simpa using hC
          clear hE hI
          go_wp2_with fail
          refine h1.mono ?_
          clear h1 q0 q1 q2 q3 q4 q5
          rintro e w11 ⟨rfl, hb11⟩
          replace hX := Box.mk (hX.out.here hb11)
          clear hb11
          obtain ⟨g0, g1, g2, g3, g4, g5⟩ := hX.out.res.frees
          obtain ⟨r0, r1, r2, r3, r4, r5⟩ := hX.out.res.cells
          go_wp2_with fail
          obtain ⟨k1, _, k3⟩ := hX.out.fin (v' := 0) (s' := 0) (c' := 0) (h' := ⟨#[]⟩) (t' := ⟨#[]⟩) (x' := .slice none 0 0)
          show bodyPost _ _ _ _ _ (put6 w11 r 0 0 0 ⟨#[]⟩ ⟨#[]⟩ (.slice none 0 0))
          clear g0 g1 g2 g3 g4 g5 r0 r1 r2 r3 r4 r5
          obtain ⟨q0, q1, q2, q3, q4, q5⟩ := k1.cells
          obtain ⟨W, hW⟩ : ∃ W, put6 w11 r 0 0 0 ⟨#[]⟩ ⟨#[]⟩ (.slice none 0 0) = W := ⟨_, rfl⟩
          rw [hW] at q0 q1 q2 q3 q4 q5 k3 ⊢
          refine bodyPost_ret (v := .tuple #[.agg #[.int .i64 0, .int .i64 0, .int .i64 0, .string ⟨#[]⟩, .string ⟨#[]⟩, .slice none 0 0], .int .i64 3]) (by simp [results, Tryz.results8, go_sem, q0, q1, q2, q3, q4, q5]; try rfl) rfl (hRI.out W _ |>.2 hAc.out ⟨_, rfl, TxR.nil _ _, k3⟩)

      · have hAc := Box.mk (hkE.out hE)
        obtain ⟨I, hI⟩ : ∃ I, Pk.endE l2 e2 = I := ⟨_, rfl⟩
        rw [hI] at h1 hE
        have hC0 : (I != 0) = true := by simpa using hE
        clear hI
        go_wp2_with fail
        clear q5 f5 hw8
        refine h1.mono ?_
        clear h1
        rintro e w10 ⟨rfl, hn10⟩
        replace hX := Box.mk (hX.out.next hn10)
        clear hn10
        obtain ⟨g0, g1, g2, g3, g4, g5⟩ := hX.out.res.frees
        obtain ⟨r0, r1, r2, r3, r4, r5⟩ := hX.out.res.cells
        go_wp2_with fail
        obtain ⟨k1, _, k3⟩ := hX.out.fin (v' := 0) (s' := 0) (c' := 0) (h' := ⟨#[]⟩) (t' := ⟨#[]⟩) (x' := .slice none 0 0)
        show bodyPost _ _ _ _ _ (put6 w10 r 0 0 0 ⟨#[]⟩ ⟨#[]⟩ (.slice none 0 0))
        clear g0 g1 g2 g3 g4 g5 r0 r1 r2 r3 r4 r5
        obtain ⟨q0, q1, q2, q3, q4, q5⟩ := k1.cells
        obtain ⟨W, hW⟩ : ∃ W, put6 w10 r 0 0 0 ⟨#[]⟩ ⟨#[]⟩ (.slice none 0 0) = W := ⟨_, rfl⟩
        rw [hW] at q0 q1 q2 q3 q4 q5 k3 ⊢
        refine bodyPost_ret (v := .tuple #[.agg #[.int .i64 0, .int .i64 0, .int .i64 0, .string ⟨#[]⟩, .string ⟨#[]⟩, .slice none 0 0], .int .i64 3]) (by simp [results, Tryz.results8, go_sem, q0, q1, q2, q3, q4, q5]; try rfl) rfl (hRI.out W _ |>.2 hAc.out ⟨_, rfl, TxR.nil _ _, k3⟩)
    · have hl00 : l0 = [] := List.length_eq_zero_iff.1 (by omega)
      have hk : kP ⟨v, s, c, h, t, l0, e0⟩ = 0 := by rw [hkp2.out, if_neg hl0]
      rw [hk] at haE haC haY hRI
      have hkE : Box (Pk.endE l0 e0 ≠ 0 → acc ⟨v, s, c, h, t, l0, e0⟩ 0 = false) := ⟨fun h => haE.out h⟩
      have hkC : Box (chkI v s c h t [] ≠ 0 → acc ⟨v, s, c, h, t, l0, e0⟩ 0 = false) := ⟨fun h => haC.out h⟩
      have hkY : Box (Pk.endE l0 e0 = 0 → chkI v s c h t [] = 0 → acc ⟨v, s, c, h, t, l0, e0⟩ 0 = true ∧ (hsR 0 l0 e0).1 = []) := ⟨fun h1 h2 => ⟨haY.out h1 h2, rfl⟩⟩
      have hgt : ¬ ((l0.length : Nat) : Int) > 0 := by omega
      clear hk hkp2 haE haC haY hsl hl00 hct
      go_wp2_with fail
      refine h1.mono ?_
      clear h1
      rintro e w5 ⟨rfl, h5⟩
      subst h5
      have h1 := Pk.end_any rb l0 e0 w4 hX.out.rd
      by_cases hE : Pk.endE l0 e0 = 0
      · rw [hE] at h1
        go_wp2_with fail
        refine h1.mono ?_
        clear h1
        rintro e w10 ⟨rfl, hn10⟩
        replace hX := Box.mk (hX.out.next hn10)
        clear hn10
        obtain ⟨q0, q1, q2, q3, q4, q5⟩ := hX.out.bill.cells
        have h1 := check_any v s c h t none 0 0 [] w10 ⟨rfl, Nat.le_refl _, Nat.zero_le _, fun h => by omega⟩ (hKB.out w10 hX.out.bel)
        by_cases hC : chkI v s c h t [] = 0
        · rw [hC] at h1
          have hAc := Box.mk (hkY.out hE hC)
          clear hE hC
          go_wp2_with fail
          refine h1.mono ?_
          clear h1 q0 q1 q2 q3 q4 q5
          rintro e w11 ⟨rfl, hb11⟩
          replace hX := Box.mk (hX.out.here hb11)
          clear hb11
          obtain ⟨q0, q1, q2, q3, q4, q5⟩ := hX.out.bill.cells
          obtain ⟨g0, g1, g2, g3, g4, g5⟩ := hX.out.res.frees
          obtain ⟨r0, r1, r2, r3, r4, r5⟩ := hX.out.res.cells
          go_wp2_with fail
          obtain ⟨k1, k2, k3⟩ := hX.out.fin (v' := v) (s' := s) (c' := c) (h' := h) (t' := t) (x' := .slice none 0 0)
          show bodyPost _ _ _ _ _ (put6 w11 r v s c h t (.slice none 0 0))
          clear q0 q1 q2 q3 q4 q5 g0 g1 g2 g3 g4 g5 r0 r1 r2 r3 r4 r5
          obtain ⟨q0, q1, q2, q3, q4, q5⟩ := k1.cells
          obtain ⟨W, hW⟩ : ∃ W, put6 w11 r v s c h t (.slice none 0 0) = W := ⟨_, rfl⟩
          rw [hW] at q0 q1 q2 q3 q4 q5 k2 k3 ⊢
          refine bodyPost_ret (v := .tuple #[.agg #[.int .i64 v, .int .i64 s, .int .i64 c, .string h, .string t, .slice none 0 0], .int .i64 0]) (by simp [results, Tryz.results8, go_sem, q0, q1, q2, q3, q4, q5]; try rfl) rfl (hRI.out W _ |>.1 hAc.out.1 (by rw [hAc.out.2]; exact ⟨_, rfl, k2, k3⟩))
        · have hAc := Box.mk (hkC.out hC)
          obtain ⟨I, hI⟩ : ∃ I, chkI v s c h t [] = I := ⟨_, rfl⟩
          rw [hI] at h1 hC
          have hC0 : (I != 0) = true := by simpa using hC
          clear hE hI
          go_wp2_with fail
          refine h1.mono ?_
          clear h1 q0 q1 q2 q3 q4 q5
          rintro e w11 ⟨rfl, hb11⟩
          replace hX := Box.mk (hX.out.here hb11)
          clear hb11
          obtain ⟨g0, g1, g2, g3, g4, g5⟩ := hX.out.res.frees
          obtain ⟨r0, r1, r2, r3, r4, r5⟩ := hX.out.res.cells
          go_wp2_with fail
          obtain ⟨k1, _, k3⟩ := hX.out.fin (v' := 0) (s' := 0) (c' := 0) (h' := ⟨#[]⟩) (t' := ⟨#[]⟩) (x' := .slice none 0 0)
          show bodyPost _ _ _ _ _ (put6 w11 r 0 0 0 ⟨#[]⟩ ⟨#[]⟩ (.slice none 0 0))
          clear g0 g1 g2 g3 g4 g5 r0 r1 r2 r3 r4 r5
          obtain ⟨q0, q1, q2, q3, q4, q5⟩ := k1.cells
          obtain ⟨W, hW⟩ : ∃ W, put6 w11 r 0 0 0 ⟨#[]⟩ ⟨#[]⟩ (.slice none 0 0) = W := ⟨_, rfl⟩
          rw [hW] at q0 q1 q2 q3 q4 q5 k3 ⊢
          refine bodyPost_ret (v := .tuple #[.agg #[.int .i64 0, .int .i64 0, .int .i64 0, .string ⟨#[]⟩, .string ⟨#[]⟩, .slice none 0 0], .int .i64 3]) (by simp [results, Tryz.results8, go_sem, q0, q1, q2, q3, q4, q5]; try rfl) rfl (hRI.out W _ |>.2 hAc.out ⟨_, rfl, TxR.nil _ _, k3⟩)

      · have hAc := Box.mk (hkE.out hE)
        obtain ⟨I, hI⟩ : ∃ I, Pk.endE l0 e0 = I := ⟨_, rfl⟩
        rw [hI] at h1 hE
        have hC0 : (I != 0) = true := by simpa using hE
        clear hI
        go_wp2_with fail
        refine h1.mono ?_
        clear h1
        rintro e w10 ⟨rfl, hn10⟩
        replace hX := Box.mk (hX.out.next hn10)
        clear hn10
        obtain ⟨g0, g1, g2, g3, g4, g5⟩ := hX.out.res.frees
        obtain ⟨r0, r1, r2, r3, r4, r5⟩ := hX.out.res.cells
        go_wp2_with fail
        obtain ⟨k1, _, k3⟩ := hX.out.fin (v' := 0) (s' := 0) (c' := 0) (h' := ⟨#[]⟩) (t' := ⟨#[]⟩) (x' := .slice none 0 0)
        show bodyPost _ _ _ _ _ (put6 w10 r 0 0 0 ⟨#[]⟩ ⟨#[]⟩ (.slice none 0 0))
        clear g0 g1 g2 g3 g4 g5 r0 r1 r2 r3 r4 r5
        obtain ⟨q0, q1, q2, q3, q4, q5⟩ := k1.cells
        obtain ⟨W, hW⟩ : ∃ W, put6 w10 r 0 0 0 ⟨#[]⟩ ⟨#[]⟩ (.slice none 0 0) = W := ⟨_, rfl⟩
        rw [hW] at q0 q1 q2 q3 q4 q5 k3 ⊢
        refine bodyPost_ret (v := .tuple #[.agg #[.int .i64 0, .int .i64 0, .int .i64 0, .string ⟨#[]⟩, .string ⟨#[]⟩, .slice none 0 0], .int .i64 3]) (by simp [results, Tryz.results8, go_sem, q0, q1, q2, q3, q4, q5]; try rfl) rfl (hRI.out W _ |>.2 hAc.out ⟨_, rfl, TxR.nil _ _, k3⟩)
end Go.Proofs.YthkfefkcjcgfkaaGreatDoor.Bi
