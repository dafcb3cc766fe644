/- A log in memory: what is its own, and the calls of what it stands on (device, cell, key), beside anything else. | Walks of (*Log).all and (*Log).place. -/
import Derived.Test.YthpfpkikmaiddaaGreatDoorGtm
import Derived.Test.YthpfpkikmaiddaaGreatDoorGtx
import Derived.Test.YthpfpkikmaiddaaGreatDoorGkc
import Derived.Test.YthpfpkikmaiddaaGreatDoorGtr
import Derived.Test.YthpfpkikmaiddaaGreatDoorGa5
set_option linter.all false
set_option linter.unusedVariables false
set_option linter.unusedSimpArgs false
namespace Go.Proofs.YthpfpkikmaiddaaGreatDoor.Tg
open Go Go.RowKit Go.Proofs.YthpfpkikmaiddaaGreatDoor.Pk Go.Proofs.YthpfpkikmaiddaaGreatDoor.Nt

/-! ### Things side by side -/
def Conv (A B : Pk.Obj) : Prop := ∀ w F, A w F → B w F
section
variable {A A' B B' C E : Pk.Obj}
theorem Conv.trans (h : Conv A B) (k : Conv B C) : Conv A C := fun w F x => k w F (h w F x)
theorem cvSwap : Conv (Pair2 A B) (Pair2 B A) := fun _ _ h => h.swap
theorem cvAssoc : Conv (Pair2 (Pair2 A B) C) (Pair2 A (Pair2 B C)) := fun _ _ h => Pair2.assoc h
theorem cvAssoc' : Conv (Pair2 A (Pair2 B C)) (Pair2 (Pair2 A B) C) := fun _ _ h => Pair2.assoc' h
theorem cvRight (h : Conv B B') : Conv (Pair2 A B) (Pair2 A B') := fun w _ ⟨F1, F2, h1, h2, hd, e1, e2, hl⟩ => ⟨F1, F2, h1, h w F2 h2, hd, e1, e2, hl⟩
theorem cvLeft (h : Conv A A') : Conv (Pair2 A B) (Pair2 A' B) := (cvSwap.trans (cvRight h)).trans cvSwap
/-- The first two of three change places. -/
theorem cvFlip : Conv (Pair2 A (Pair2 B C)) (Pair2 B (Pair2 A C)) := (cvAssoc'.trans (cvLeft cvSwap)).trans cvAssoc
end
theorem kept_cv {w0 w : World} {A B : Pk.Obj} (h : Kept w0 A w) (c : Conv A B) : Kept w0 B w := h.conv fun F x => c w F x
theorem kept_look {w0 w : World} {A B : Pk.Obj} (h : Kept w0 (Pair2 A B) w) : ∃ F, A w F ∧ (∀ k, F k → w0.heap.size ≤ k) ∧ ∀ k, F k → k < w.heap.size := by
  obtain ⟨F, ⟨F1, F2, h1, _, _, e1, _, hl⟩, h3, _⟩ := h
  exact ⟨F1, h1, fun k hk => h3 k (e1 k hk), fun k hk => hl k (e1 k hk)⟩
/-- What changes the first thing alone. -/
theorem kept_move {w0 w w' : World} {A A' B : Pk.Obj} (h : Kept w0 (Pair2 A B) w) (g : Pk.Good B) (hm : ∀ F, A w F → A' w' (Ext F w w') ∧ Chg F w w') : Kept w0 (Pair2 A' B) w' := by
  obtain ⟨F, ⟨F1, F2, h1, h2, hd, e1, e2, hl⟩, h3, h4⟩ := h
  obtain ⟨k1, k2⟩ := hm F1 h1
  refine ⟨Ext F w w', ⟨Ext F1 w w', F2, k1, g.chg h2 k2 fun k hk hk2 => hd k hk2 hk, fun k hk hk2 => ?_, fun k hk => ?_, fun k hk => .inl (e2 k hk), fun k hk => ?_⟩, fun k hk => ?_, h4.trans (k2.below h4.size fun k hk => h3 k (e1 k hk))⟩
  · rcases hk with hk | hk
    · exact hd k hk hk2
    · have := g.lt h2 k hk2; omega
  · rcases hk with hk | hk
    · exact .inl (e1 k hk)
    · exact .inr hk
  · rcases hk with hk | hk
    · exact Nat.lt_of_lt_of_le (hl k hk) k2.size
    · exact hk.2
  · rcases hk with hk | hk
    · exact h3 k hk
    · exact Nat.le_trans h4.size hk.1
theorem kept_new {w0 w w' : World} {O O2 : Pk.Obj} (h : Kept w0 O w) (g : Pk.Good O) (g2 : Pk.Good O2) (hb : Below w.heap.size w w') (h2 : O2 w' fun k => w.heap.size ≤ k ∧ k < w'.heap.size) : Kept w0 (Pair2 O2 O) w' :=
  kept_cv (h.add g hb h2 g2 fun _ hk => hk.1) cvSwap
theorem kept_step {w0 w : World} {O O' : Pk.Obj} {f : FuncId} {args : Array Value} {v : Value} (h : Kept w0 O w) (hd : DoesIn w0 f args O (RetE v O')) : Calls Tryz.prog f args w fun e w' => e = .returned v ∧ Box (Kept w0 O' w') :=
  (h.step hd).mono fun _ _ ⟨he, hk⟩ => ⟨he, ⟨hk.out⟩⟩
/-! ### Blocks, rows, keys as things -/
def BlO (b : Nat) (cs : List Value) (t : TypeId) : Pk.Obj := fun w F => Pk.Blk w b cs t ∧ F b ∧ ∀ k, F k → k < w.heap.size
theorem BlO.good (b : Nat) (cs : List Value) (t : TypeId) : Pk.Good (BlO b cs t) where
  lt := fun h => h.2.2
  chg := fun h hc hn => ⟨hc.blk h.1 (hn _ h.2.1), h.2.1, fun k hk => Nat.lt_of_lt_of_le (h.2.2 k hk) hc.size⟩
  wide := fun h hG hl => ⟨h.1, hG _ h.2.1, hl⟩
def RowO (v : Value) (P : List ByteArray) : Pk.Obj := fun w F => TxR 0 w v P ∧ (∀ k, v.ownBlock = some k → F k) ∧ ∀ k, F k → k < w.heap.size
theorem RowO.good (v : Value) (P : List ByteArray) : Pk.Good (RowO v P) where
  lt := fun h => h.2.2
  chg := fun h hc hn => ⟨h.1.chg hc fun k hk => hn k (h.2.1 k hk), h.2.1, fun k hk => Nat.lt_of_lt_of_le (h.2.2 k hk) hc.size⟩
  wide := fun h hG hl => ⟨h.1, fun k hk => hG k (h.2.1 k hk), hl⟩
def KeyO (bk : Nat) (s : ByteArray) (h u : Nat) : Pk.Obj := fun w F => (∃ O, KeyAt w bk O s h u ∧ F bk ∧ ∀ t, O = some t → F t) ∧ ∀ k, F k → k < w.heap.size
theorem KeyO.good (bk : Nat) (s : ByteArray) (h u : Nat) : Pk.Good (KeyO bk s h u) where
  lt := fun h => h.2
  chg := fun h hc hn => by
    obtain ⟨⟨O, k, h1, h2⟩, h3⟩ := h
    exact ⟨⟨O, k.chg hc (hn _ h1) fun t e => hn _ (h2 t e), h1, h2⟩, fun i hi => Nat.lt_of_lt_of_le (h3 i hi) hc.size⟩
  wide := fun h hG hl => by
    obtain ⟨⟨O, k, h1, h2⟩, h3⟩ := h
    exact ⟨⟨O, k, hG _ h1, fun t e => hG _ (h2 t e)⟩, hl⟩
/-- What a world must hold all along: the library's variables, the hash's table. -/
structure Env (w0 : World) : Prop where
  nl : NL w0.heap.size w0
  kis : KIs w0
theorem Env.nlAt {w0 w : World} (h : Env w0) (hb : Below w0.heap.size w0 w) : NL w0.heap.size w := h.nl.below hb
theorem Env.kisAt {w0 w : World} (h : Env w0) (hb : Below w0.heap.size w0 w) : KIs w := h.kis.below hb h.kis.lt
section
variable {w0 : World} {bk : Nat} {s : ByteArray} {h u : Nat}
theorem key_to {w w' : World} {O : Option Nat} {F : Nat → Prop} {u' : Nat} (k : KeyAt w bk O s h u) (h1 : F bk) (h2 : ∀ t, O = some t → F t) (h3 : ∀ k, F k → k < w.heap.size) (g : KeyTo w bk O s h u' w') : KeyO bk s h u' w' (Ext F w w') ∧ Chg F w w' := by
  obtain ⟨⟨O', k', hO⟩, hc⟩ := g
  refine ⟨⟨⟨O', k', .inl h1, fun t e => ?_⟩, fun i hi => ?_⟩, hc.mono fun i _ hi => hi ▸ h1⟩
  · rcases hO with rfl | hO
    · exact .inl (h2 t e)
    · exact .inr ⟨hO t e, (k'.tree t e).2.lt⟩
  · rcases hi with hi | hi
    · exact Nat.lt_of_lt_of_le (h3 i hi) hc.size
    · exact hi.2
theorem ksign_does (hE : Env w0) (t : ByteArray) (hs : s.size ≤ 140737488351232) (ht : t.size ≤ 140737488351232) (hu : u < 2 ^ h) :
    DoesIn w0 96 #[.pointer (some ⟨bk, 0, none⟩), .string t] (KeyO bk s h u) (RetE (.tuple #[.string (keyS s h u t), .int .i64 0]) (KeyO bk s h (u + 1))) := by
  rintro w F ⟨⟨O, k, h1, h2⟩, h3⟩ _ hb
  refine (sign_key bk O s t h u w k (hE.kisAt hb) (by omega) (by omega) hu).mono ?_
  rintro e w' ⟨rfl, g⟩
  exact ⟨⟨rfl, (key_to k h1 h2 h3 g).1⟩, (key_to k h1 h2 h3 g).2⟩
theorem kid_does (hE : Env w0) (hs : s.size ≤ 140737488351232) :
    DoesIn w0 69 #[.pointer (some ⟨bk, 0, none⟩)] (KeyO bk s h u) (RetE (.string (keyID s h)) (KeyO bk s h u)) := by
  rintro w F ⟨⟨O, k, h1, h2⟩, h3⟩ _ hb
  refine (id_key bk O s h u w k (hE.kisAt hb) (by omega)).mono ?_
  rintro e w' ⟨rfl, g⟩
  exact ⟨⟨rfl, (key_to k h1 h2 h3 g).1⟩, (key_to k h1 h2 h3 g).2⟩
theorem kused_does : DoesIn w0 47 #[.pointer (some ⟨bk, 0, none⟩)] (KeyO bk s h u) (RetE (.int .i64 (u : Int)) (KeyO bk s h u)) := by
  rintro w F ⟨⟨O, k, h1, h2⟩, h3⟩ _ hb
  refine (used_any bk O s h u w k).mono ?_
  rintro e w' ⟨rfl, rfl⟩
  exact ⟨⟨rfl, (Ext.same (KeyO.good bk s h u) ⟨⟨O, k, h1, h2⟩, h3⟩).1⟩, (Ext.same (KeyO.good bk s h u) ⟨⟨O, k, h1, h2⟩, h3⟩).2⟩
theorem kleft_does (hu : u ≤ 2 ^ h) : DoesIn w0 70 #[.pointer (some ⟨bk, 0, none⟩)] (KeyO bk s h u) (RetE (.int .i64 ((2 ^ h - u : Nat) : Int)) (KeyO bk s h u)) := by
  rintro w F ⟨⟨O, k, h1, h2⟩, h3⟩ _ hb
  refine (left_any bk O s h u w k hu).mono ?_
  rintro e w' ⟨rfl, rfl⟩
  exact ⟨⟨rfl, (Ext.same (KeyO.good bk s h u) ⟨⟨O, k, h1, h2⟩, h3⟩).1⟩, (Ext.same (KeyO.good bk s h u) ⟨⟨O, k, h1, h2⟩, h3⟩).2⟩
theorem kskip_does (n : Int) : DoesIn w0 38 #[.pointer (some ⟨bk, 0, none⟩), .int .i64 n] (KeyO bk s h u) (RetE (.tuple #[]) (KeyO bk s h (skipN u n h))) := by
  rintro w F ⟨⟨O, k, h1, h2⟩, h3⟩ _ hb
  refine (skip_any bk O s h u n w k).mono ?_
  rintro e w' ⟨rfl, k', hc⟩
  refine ⟨⟨rfl, ⟨⟨O, k', .inl h1, fun t e => .inl (h2 t e)⟩, fun i hi => ?_⟩⟩, hc.mono fun i _ hi => hi ▸ h1⟩
  rcases hi with hi | hi
  · exact Nat.lt_of_lt_of_le (h3 i hi) hc.size
  · exact hi.2
end

/-! ### A log's own block and its rows -/
def lrC (o : ByteArray) (bk bc : Nat) (vl vh vp : Value) : List Value := [.string o, .pointer (some ⟨bk, 0, none⟩), .pointer (some ⟨bc, 0, none⟩), vl, vh, vp]
structure LrO (bl : Nat) (o : ByteArray) (bk bc : Nat) (lv pd : List ByteArray) (vl vh vp : Value) (w : World) (F : Nat → Prop) : Prop where
  blk : Pk.Blk w bl (lrC o bk bc vl vh vp) 86
  rl : TxR 0 w vl lv
  rh : TxR 0 w vh (lv.map leafH)
  rp : TxR 0 w vp pd
  fb : F bl
  fl : ∀ k, vl.ownBlock = some k → F k
  fh : ∀ k, vh.ownBlock = some k → F k
  fp : ∀ k, vp.ownBlock = some k → F k
  lh : ∀ k, vl.ownBlock = some k → vh.ownBlock ≠ some k
  lp : ∀ k, vl.ownBlock = some k → vp.ownBlock ≠ some k
  hp : ∀ k, vh.ownBlock = some k → vp.ownBlock ≠ some k
  lt : ∀ k, F k → k < w.heap.size
theorem LrO.good (bl : Nat) (o : ByteArray) (bk bc : Nat) (lv pd : List ByteArray) (vl vh vp : Value) : Pk.Good (LrO bl o bk bc lv pd vl vh vp) where
  lt := fun h => h.lt
  chg := fun h hc hn => ⟨hc.blk h.blk (hn _ h.fb), h.rl.chg hc fun k hk => hn k (h.fl k hk), h.rh.chg hc fun k hk => hn k (h.fh k hk), h.rp.chg hc fun k hk => hn k (h.fp k hk), h.fb, h.fl, h.fh, h.fp, h.lh, h.lp, h.hp, fun k hk => Nat.lt_of_lt_of_le (h.lt k hk) hc.size⟩
  wide := fun h hG hl => ⟨h.blk, h.rl, h.rh, h.rp, hG _ h.fb, fun k hk => hG k (h.fl k hk), fun k hk => hG k (h.fh k hk), fun k hk => hG k (h.fp k hk), h.lh, h.lp, h.hp, hl⟩
theorem txr_apart {w : World} {v : Value} {P : List ByteArray} {b : Nat} {cs : List Value} {t : TypeId} (h : TxR 0 w v P) (hb : Pk.Blk w b cs t) (ht : t ≠ 9) : v.ownBlock ≠ some b :=
  Pk.Row.apart (w := w) (e := 9) (size := 1) (v := v) h hb ht
theorem txr_set {w : World} {v : Value} {P : List ByteArray} {b : Nat} {cs : List Value} {t : TypeId} (h : TxR 0 w v P) (hb : Pk.Blk w b cs t) (ht : t ≠ 9) (i : Nat) (u : Value) : TxR 0 (w.setCell ⟨b, i, none⟩ u) v P :=
  h.chg ((Chg.refl (fun k => k = b) w).setCell (p := ⟨b, i, none⟩) rfl u) fun k hk e => txr_apart h hb ht (by rw [hk, e])
/-- The row of all leaves, of their hashes, of the pending ones: as an argument. -/
theorem txr_pa {w : World} {v : Value} {P : List ByteArray} (h : TxR 0 w v P) : ∃ a c, v = .slice a P.length c ∧ PA w a P.length c P := by
  have hp := h.parts
  have h' := h
  unfold TxR World.ownsRow at h'
  obtain ⟨_, ⟨rfl, h0⟩ | ⟨g, cap, cur, rfl, _, _, h1, h2, _⟩⟩ := h'
  · rw [h0]
    exact ⟨none, 0, rfl, ⟨h0, Nat.le_refl _, by decide, fun h => absurd h (Nat.lt_irrefl 0)⟩⟩
  · refine ⟨_, cap, rfl, ⟨rfl, h1, by unfold maxLen at h2; omega, fun h0 => ?_⟩⟩
    obtain ⟨a', c', e, hp⟩ := hp.ex
    cases e
    exact hp h0
end Go.Proofs.YthpfpkikmaiddaaGreatDoor.Tg

namespace Go.Proofs.YthpfpkikmaiddaaGreatDoor.Tg
open Go Go.RowKit Go.Proofs.YthpfpkikmaiddaaGreatDoor.Pk
set_option maxHeartbeats 3200000 in
set_option maxRecDepth 100000 in
theorem all_any (bl : Nat) (o : ByteArray) (bk bc : Nat) (vl vh vp : Value) (lv pd : List ByteArray) (w : World) (hb : Pk.Blk w bl (lrC o bk bc vl vh vp) 86) (hl : TxR 0 w vl lv) (hp : TxR 0 w vp pd) (hn : lv.length + pd.length ≤ 1000000) :
    Calls Tryz.prog 41 #[.pointer (some ⟨bl, 0, none⟩)] w (ConI w (lv ++ pd)) := by
  obtain ⟨a1, c1, rfl, P1⟩ := txr_pa hl
  obtain ⟨a2, c2, rfl, P2⟩ := txr_pa hp
  have d3 : w.drew.cell? ⟨bl, 3, none⟩ = some (.slice a1 lv.length c1) := hb.cell 3
  have d5 : w.drew.cell? ⟨bl, 5, none⟩ = some (.slice a2 pd.length c2) := hb.cell 5
  obtain ⟨W, hW⟩ : ∃ W, w.drew.alloc (.cells #[.slice a1 lv.length c1, .slice a2 pd.length c2] 22) = W := ⟨_, rfl⟩
  have hBW : Box (Below w.heap.size w W) := ⟨by rw [← hW]; exact (dB w).alloc (Nat.le_refl _) _⟩
  have hK : Pk.Blk W w.drew.heap.size [.slice a1 lv.length c1, .slice a2 pd.length c2] 22 := by rw [← hW]; exact Pk.Blk.new w.drew _ _
  have hF := concat_two w.drew.heap.size a1 a2 lv.length c1 pd.length c2 lv pd W (hK.cell 0) (hK.cell 1) hK.lt (P1.here hBW.out) (P2.here hBW.out) hn
  have hbl := hb.lt
  have e3 : W.cell? ⟨bl, 3, none⟩ = some (.slice a1 lv.length c1) := (hBW.out.cell (p := ⟨bl, 3, none⟩) hbl).trans (hb.cell 3)
  have e5 : W.cell? ⟨bl, 5, none⟩ = some (.slice a2 pd.length c2) := (hBW.out.cell (p := ⟨bl, 5, none⟩) hbl).trans (hb.cell 5)
  obtain ⟨l, hle⟩ : ∃ l, lv ++ pd = l := ⟨_, rfl⟩
  rw [hle] at hF ⊢
  obtain ⟨n1, hn1⟩ : ∃ n, lv.length = n := ⟨_, rfl⟩
  obtain ⟨n2, hn2⟩ : ∃ n, pd.length = n := ⟨_, rfl⟩
  rw [hn1] at d3 e3 hW
  rw [hn2] at d5 e5 hW
  replace hF := Box.mk hF
  have hlt := Box.mk hbl
  clear hb hl hp P1 P2 hK hle hn hbl hn1 hn2
  go_enter Tryz.func41, Tryz.ntmps41
  go_wp2_with fail
  refine region_go (C := fun w' => w'.cell? ⟨bl, 3, none⟩ = some (.slice a1 n1 c1) ∧ w'.cell? ⟨bl, 5, none⟩ = some (.slice a2 n2 c2)) rfl ?_
  refine go_calms [0, 1, 2, 3, 4, 5, 6, 7] 3 rfl (by kernel_rfl) (by kernel_rfl) (by kernel_rfl) ⟨d3, d5⟩ ?_
  simp [nth]
  try simp only [Act.put]
  repeat (go_big_quiet_step (first | exact fun _ => rfl | rfl))
  refine quiet_val rfl (.pointer (some ⟨bl, 0, none⟩)) (fun w' hw' => by go_simp) ?_
  simp only [Act.put, List.setIfInBounds_toArray, List.set_cons_succ, List.set_cons_zero]
  refine quiet_val rfl (.pointer (some ⟨bl, 3, none⟩)) (fun w' hw' => by go_simp) ?_
  simp only [Act.put, List.setIfInBounds_toArray, List.set_cons_succ, List.set_cons_zero]
  refine quiet_val rfl (.slice a1 n1 c1) (fun w' hw' => by have h := hw'.1; go_simp) ?_
  simp only [Act.put, List.setIfInBounds_toArray, List.set_cons_succ, List.set_cons_zero]
  repeat (go_big_quiet_step (first | exact fun _ => rfl | rfl))
  refine quiet_val rfl (.pointer (some ⟨bl, 0, none⟩)) (fun w' hw' => by go_simp) ?_
  simp only [Act.put, List.setIfInBounds_toArray, List.set_cons_succ, List.set_cons_zero]
  refine quiet_val rfl (.pointer (some ⟨bl, 5, none⟩)) (fun w' hw' => by go_simp) ?_
  simp only [Act.put, List.setIfInBounds_toArray, List.set_cons_succ, List.set_cons_zero]
  refine quiet_val rfl (.slice a2 n2 c2) (fun w' hw' => by have h := hw'.2; go_simp) ?_
  simp only [Act.put, List.setIfInBounds_toArray, List.set_cons_succ, List.set_cons_zero]
  refine wpQuiet_nil ?_
  refine go_forced 8 (by kernel_rfl) (goOp_wp 8 rfl rfl (fun K hK => ?_))
  go_simp
  refine hK _ _ ⟨e3, e5⟩ ?_
  clear hK K
  refine go_forced 9 (by kernel_rfl) (goOp_wp 9 rfl rfl (fun K hK => ?_))
  go_simp
  refine hF.out.mono ?_
  clear hF
  rintro e w3 ⟨v, rfl, hT, hB⟩
  have f3 : w3.cell? ⟨bl, 3, none⟩ = some (.slice a1 n1 c1) := (hB.cell (p := ⟨bl, 3, none⟩) (Nat.lt_of_lt_of_le hlt.out hBW.out.size)).trans e3
  have f5 : w3.cell? ⟨bl, 5, none⟩ = some (.slice a2 n2 c2) := (hB.cell (p := ⟨bl, 5, none⟩) (Nat.lt_of_lt_of_le hlt.out hBW.out.size)).trans e5
  refine hK _ _ ⟨f3, f5⟩ ?_
  have hfin : Box (ConI w l (.returned v) w3) := ⟨⟨v, rfl, hT.base hBW.out.size, mono_bel hBW.out hB (Nat.le_refl _)⟩⟩
  clear hK K hT hB
  refine go_calms [10] 0 rfl (by kernel_rfl) (by kernel_rfl) (by kernel_rfl) ⟨f3, f5⟩ ?_
  simp [nth]
  try simp only [Act.put]
  repeat (go_big_quiet_step (first | exact fun _ => rfl | rfl))
  refine wpQuiet_nil ?_
  refine go_done (by kernel_rfl) ?_
  go_simp
  go_wp2_with fail
  go_ret
  exact hfin.out

theorem st_eq {B C : World → Prop} (h : ∀ w, C w → B w) : St B (fun w w' => w = w') C := ⟨h, fun _ _ hC e => e ▸ hC⟩
theorem region_steadyC {P : Program} (B C : World → Prop) (R : World → World → Prop) {id : Nat} {Q : Exit → Act → World → Prop} {a : Act} {w : World} {l : List Oper} (hm : P.follows .mixedOrders = true) (hC : C w.drew)
    (h : anyS P .any l.toArray B R (Q .normal) l.length (Array.replicate l.length false) a C) : (Code.region id l.toArray true).wp P Q a w := by
  refine wp_region_any hm ?_
  have h2 := any_of_S (fun _ _ h => h) _ _ _ _ _ hC h
  simpa using h2
theorem chg_cell {S : Nat → Prop} {w w' : World} (hc : Pk.Chg S w w') {b : Nat} (i : Nat) (hb : b < w.heap.size) (hn : ¬ S b) : w'.cell? ⟨b, i, none⟩ = w.cell? ⟨b, i, none⟩ := by
  have h := hc.block b hb hn
  unfold World.cell?
  rw [h]
/-- In place: rows that grow, behind the log's own block. -/
structure PlAt (w0 : World) (bl : Nat) (o : ByteArray) (bk bc : Nat) (vl vh vp : Value) (lv hs : List ByteArray) (x y : Value) (w : World) : Prop where
  blk : Pk.Blk w bl (lrC o bk bc x y vp) 86
  rl : TxR 0 w x lv
  rh : TxR 0 w y hs
  pl : ∀ k, x.ownBlock = some k → vl.ownBlock = some k ∨ w0.heap.size ≤ k
  ph : ∀ k, y.ownBlock = some k → vh.ownBlock = some k ∨ w0.heap.size ≤ k
  lh : ∀ k, x.ownBlock = some k → y.ownBlock ≠ some k
  chg : Pk.Chg (fun k => k = bl ∨ vl.ownBlock = some k ∨ vh.ownBlock = some k) w0 w
section
variable {w0 w w' w1 : World} {bl : Nat} {o : ByteArray} {bk bc : Nat} {vl vh vp : Value} {lv hs : List ByteArray} {x y v' : Value} {s : ByteArray}
theorem PlAt.here (h : PlAt w0 bl o bk bc vl vh vp lv hs x y w) (hb : Below w.heap.size w w') : PlAt w0 bl o bk bc vl vh vp lv hs x y w' :=
  ⟨(hb.block _ h.blk.lt).trans h.blk, h.rl.here hb, h.rh.here hb, h.pl, h.ph, h.lh, h.chg.trans (chg0 (S := fun _ => False) hb) fun _ _ h => h.elim⟩
theorem PlAt.pushL (h : PlAt w0 bl o bk bc vl vh vp lv hs x y w) (hp : PushedT 0 w x (lv ++ [s]) v' w1) : PlAt w0 bl o bk bc vl vh vp (lv ++ [s]) hs v' y (w1.setCell ⟨bl, 3, none⟩ v') := by
  have hx := txr_apart h.rl h.blk (by decide)
  have hB1 := hp.chg.blk h.blk hx
  have hR1 := h.rh.chg hp.chg fun k hk e => h.lh k e hk
  refine ⟨hB1.setCell 3 v', txr_set hp.row hB1 (by decide) 3 v', txr_set hR1 hB1 (by decide) 3 v', fun k hk => ?_, h.ph, fun k hk => ?_, ?_⟩
  · rcases hp.place k hk with h1 | h1
    · exact h.pl k h1
    · exact .inr (Nat.le_trans h.chg.size h1)
  · rcases hp.place k hk with h1 | h1
    · exact h.lh k h1
    · intro e
      have := (h.rh.own k e).2
      omega
  · refine (h.chg.trans hp.chg fun i hi e => ?_).setCell (.inl rfl) _
    rcases h.pl i e with h1 | h1
    · exact .inr (.inl h1)
    · omega
theorem PlAt.pushH (h : PlAt w0 bl o bk bc vl vh vp lv hs x y w) (hp : PushedT 0 w y (hs ++ [s]) v' w1) : PlAt w0 bl o bk bc vl vh vp lv (hs ++ [s]) x v' (w1.setCell ⟨bl, 4, none⟩ v') := by
  have hx := txr_apart h.rh h.blk (by decide)
  have hB1 := hp.chg.blk h.blk hx
  have hR1 := h.rl.chg hp.chg fun k hk e => h.lh k hk e
  refine ⟨hB1.setCell 4 v', txr_set hR1 hB1 (by decide) 4 v', txr_set hp.row hB1 (by decide) 4 v', h.pl, fun k hk => ?_, fun k hk e => ?_, ?_⟩
  · rcases hp.place k hk with h1 | h1
    · exact h.ph k h1
    · exact .inr (Nat.le_trans h.chg.size h1)
  · rcases hp.place k e with h1 | h1
    · exact h.lh k hk h1
    · have := (h.rl.own k hk).2
      omega
  · refine (h.chg.trans hp.chg fun i hi e => ?_).setCell (.inl rfl) _
    rcases h.ph i e with h1 | h1
    · exact .inr (.inr h1)
    · omega
end
/-- A row that none of them is. -/
def ApartOf (a : Option Addr) (bl : Nat) (vl vh : Value) : Prop := ∀ q off, a = some ⟨q, off, none⟩ → q ≠ bl ∧ vl.ownBlock ≠ some q ∧ vh.ownBlock ≠ some q
set_option maxHeartbeats 3200000 in
set_option maxRecDepth 100000 in
theorem place_any (bl : Nat) (o : ByteArray) (bk bc : Nat) (vl vh vp : Value) (lv hs ps : List ByteArray) (a : Option Addr) (n c : Nat) (w : World) (hK : KIs w) (h : PlAt w bl o bk bc vl vh vp lv hs vl vh w) (hP : PA w a n c ps) (hap : ApartOf a bl vl vh)
    (hls : ∀ x ∈ ps, x.size ≤ 65535) (hn : lv.length + n ≤ 1000000) (hn2 : hs.length + n ≤ 1000000) (hKr : 3 ≠ bl ∧ vl.ownBlock ≠ some 3 ∧ vh.ownBlock ≠ some 3) :
    Calls Tryz.prog 39 #[.pointer (some ⟨bl, 0, none⟩), .slice a n c] w fun e w' => e = .returned (.tuple #[]) ∧ ∃ x y, PlAt w bl o bk bc vl vh vp (lv ++ ps) (hs ++ ps.map leafH) x y w' := by
  have hlen := hP.len
  have hcap : n ≤ c := hP.cap
  have htop : c ≤ 9223372036854775807 := hP.top
  have h0 : Box (PlAt w bl o bk bc vl vh vp (lv ++ ps.take 0) (hs ++ (ps.take 0).map leafH) vl vh w) := ⟨by simpa using h⟩
  have hKB := Box.mk (fun x y w' ls ks (hp : PlAt w bl o bk bc vl vh vp ls ks x y w') => hK.chg hp.chg (fun e => by
    rcases e with e | e | e
    · exact hKr.1 e
    · exact hKr.2.1 e
    · exact hKr.2.2 e))
  replace hP := Box.mk hP
  replace hap := Box.mk hap
  replace hls := Box.mk hls
  replace hlen := Box.mk hlen
  replace hn := Box.mk hn
  replace hn2 := Box.mk hn2
  clear h hK hKr
  go_enter Tryz.func39, Tryz.ntmps39
  go_wp2_with fail
  go_loopw [5, 8] (fun _ s8 wr => ∃ (i : Nat) (x y : Value), i ≤ n ∧ s8 = .int .i64 (i : Int) ∧ Box (PlAt w bl o bk bc vl vh vp (lv ++ ps.take i) (hs ++ (ps.take i).map leafH) x y wr)) (fun _ s8 _ => n - (intOf s8).toNat)
  case atStart => exact ⟨0, vl, vh, by omega, rfl, h0⟩
  case round =>
    clear h0
    obtain ⟨i, x, y, hi, rfl, hA⟩ := hrel
    by_cases hlt : i < n
    · obtain ⟨blk, off, rfl, hbl, hcell⟩ := hP.out.at_ (by omega)
      have hq := hap.out blk off rfl
      have hc := (chg_cell hA.out.chg (off + i) hbl (fun e => by
        rcases e with e | e | e
        · exact hq.1 e
        · exact hq.2.1 e
        · exact hq.2.2 e)).trans (hcell i hlt)
      have hsz : (ps.getD i ByteArray.empty).size ≤ 65535 := hls.out _ (by
        rw [List.getD_eq_getElem?_getD, List.getElem?_eq_getElem (by rw [hlen.out]; exact hlt)]; exact List.getElem_mem _)
      have hst : ps.take (i + 1) = ps.take i ++ [ps.getD i ByteArray.empty] := by
        rw [List.take_add_one, List.getElem?_eq_getElem (by rw [hlen.out]; exact hlt), List.getD_eq_getElem?_getD, List.getElem?_eq_getElem (by rw [hlen.out]; exact hlt)]
        rfl
      obtain ⟨s, hs'⟩ : ∃ s, ps.getD i ByteArray.empty = s := ⟨_, rfl⟩
      rw [hs'] at hc hsz hst
      replace hst := Box.mk hst
      obtain ⟨ax, cx, rfl⟩ := hA.out.rl.shape
      obtain ⟨ay, cy, rfl⟩ := hA.out.rh.shape
      have ht1 : (ps.take i).length = i := by rw [List.length_take, hlen.out]; omega
      have hlx : (lv ++ ps.take i).length = lv.length + i := by rw [List.length_append, ht1]
      have hly : (hs ++ (ps.take i).map leafH).length = hs.length + i := by rw [List.length_append, List.length_map, ht1]
      have hlim1 : Box (((lv ++ ps.take i).length + 1) * 16 ≤ 140737488355328) := ⟨by rw [hlx]; have := hn.out; omega⟩
      have hlim2 : Box (((hs ++ (ps.take i).map leafH).length + 1) * 16 ≤ 140737488355328) := ⟨by rw [hly]; have := hn2.out; omega⟩
      obtain ⟨N, hN⟩ : ∃ N, (lv ++ ps.take i).length = N := ⟨_, rfl⟩
      obtain ⟨M, hM⟩ : ∃ M, (hs ++ (ps.take i).map leafH).length = M := ⟨_, rfl⟩
      rw [hN, hM] at hA
      have c3 : wr.cell? ⟨bl, 3, none⟩ = some (.slice ax N cx) := hA.out.blk.cell 3
      have hz := Box.mk (parts_new wr [s] 9)
      have hA1 := Box.mk (hA.out.here (bel_alloc wr (.cells #[.string s] 9)))
      clear hcell hA hs' ht1 hlx hly hN hM
      go_wp2_with (refine wpList_pushT rfl (.tmp 16) (.tmp 18) rfl 0 _ _ [s] rfl hA1.out.rl (Nat.zero_le _) (some ⟨wr.heap.size, 0, none⟩) 1 1 rfl rfl hz.out hlim1.out ?_; intro vo w4 hpush; have hA2 := Box.mk (hA1.out.pushL hpush); have k3 : w4.cell? ⟨bl, 3, none⟩ = some (.slice ax N cx) := (chg_cell hpush.chg 3 hA1.out.blk.lt (txr_apart hA1.out.rl hA1.out.blk (by decide))).trans (hA1.out.blk.cell 3); have f3 : w4.frozen? ⟨bl, 3, none⟩ = false := (hpush.chg.blk hA1.out.blk (txr_apart hA1.out.rl hA1.out.blk (by decide))).free 3; obtain ⟨av, N2, cv, rfl⟩ : ∃ av N2 cv, vo = Value.slice av N2 cv := (by obtain ⟨av, cv, h⟩ := hpush.row.shape; exact ⟨_, _, _, h⟩))
      obtain ⟨W2, hW2⟩ : ∃ W2, w4.setCell ⟨bl, 3, none⟩ (.slice av N2 cv) = W2 := ⟨_, rfl⟩
      rw [hW2] at hA2 ⊢
      have hK2 := Box.mk (hKB.out _ _ _ _ _ hA2.out)
      have kB : Box (∀ w', Below W2.heap.size W2 w' → w'.cell? ⟨bl, 4, none⟩ = some (.slice ay M cy)) := ⟨fun w' hb => (hA2.out.here hb).blk.cell 4⟩
      have hcall : Box (∀ wa, Below W2.heap.size W2 wa → Calls Tryz.prog 86 #[.string s] wa fun e w' => e = .returned (.string (leafH s)) ∧ Below wa.heap.size wa w') := ⟨fun wa hb => tleaf_any s wa (hK2.out.below hb hK2.out.lt) (by omega)⟩
      obtain ⟨y, hy⟩ : ∃ y, leafH s = y := ⟨_, rfl⟩
      rw [hy] at hcall
      replace hy := Box.mk hy
      clear k3 f3 hpush hW2 hA1 hz c3 hc hsz hK2
      refine region_steadyC (fun w' => w'.cell? ⟨bl, 4, none⟩ = some (.slice ay M cy)) (fun w' => Below W2.heap.size W2 w') (fun w w' => w = w') rfl (dB W2) ?_
      refine anyS_calms [0, 1, 2, 3, 4, 5] 6 rfl (fun _ => rfl) (st_eq kB.out) (by kernel_rfl) (by kernel_rfl) (by kernel_rfl) ?_
      simp [nth]
      try simp only [Act.put, List.setIfInBounds_toArray, List.set_cons_succ, List.set_cons_zero]
      repeat (go_big_quiet_step (first | exact fun _ => rfl | rfl))
      refine quiet_val rfl (.slice ay M cy) (fun w' hw' => by have h3 := hw'; go_simp) ?_
      simp only [Act.put, List.setIfInBounds_toArray, List.set_cons_succ, List.set_cons_zero]
      repeat (go_big_quiet_step (first | exact fun _ => rfl | rfl))
      refine wpQuiet_nil ?_
      refine anyS_forced 6 (by kernel_rfl) rfl rfl (fun wa hWa K hK => ?_)
      have hF := hcall.out wa hWa
      have hA3 := Box.mk (hA2.out.here hWa)
      go_simp
      refine hF.mono ?_
      rintro e wb ⟨rfl, hb⟩
      have hA4 := Box.mk (hA3.out.here hb)
      refine hK _ _ (fun w' => w' = wb) (st_eq fun w' e => e ▸ hA4.out.blk.cell 4) rfl ?_
      clear hK K hF hWa hb hcall hA2 hA3
      refine anyS_forced 7 (by kernel_rfl) rfl rfl (fun wc hWc K hK => ?_)
      subst hWc
      have hz := Box.mk (parts_new wc [y] 9)
      have hA5 := Box.mk (hA4.out.here (bel_alloc wc (.cells #[.string y] 9)))
      go_simp
      refine hK _ _ (fun w' => w' = wc.alloc (.cells #[.string y] 9)) (st_eq fun w' e => e ▸ hA5.out.blk.cell 4) rfl ?_
      clear hK K hA4
      refine anyS_forced 8 (by kernel_rfl) rfl rfl (fun wd hWd K hK => ?_)
      subst hWd
      refine wp_pushT (.tmp 26) (.tmp 29) rfl 0 _ _ [y] rfl hA5.out.rh (Nat.zero_le _) (some ⟨wc.heap.size, 0, none⟩) 1 1 rfl rfl hz.out hlim2.out ?_
      intro v' w5 hp5
      have hA6 := Box.mk (hA5.out.pushH hp5)
      have hk5 := hp5.chg.blk hA5.out.blk (txr_apart hA5.out.rh hA5.out.blk (by decide))
      have k5 : w5.cell? ⟨bl, 4, none⟩ = some (.slice ay M cy) := hk5.cell 4
      have f5 : w5.frozen? ⟨bl, 4, none⟩ = false := hk5.free 4
      obtain ⟨bv, M2, dv, rfl⟩ : ∃ av N2 cv, v' = Value.slice av N2 cv := (by obtain ⟨av, cv, h⟩ := hp5.row.shape; exact ⟨_, _, _, h⟩)
      refine hK _ _ (fun w' => w' = w5) (st_eq fun w' e => e ▸ k5) rfl ?_
      clear hK K hp5 hz hA5 hk5
      refine anyS_calms [9, 10] 1 rfl (fun _ => rfl) (st_eq fun w' e => e ▸ k5) (by kernel_rfl) (by kernel_rfl) (by kernel_rfl) ?_
      simp [nth]
      try simp only [Act.put, List.setIfInBounds_toArray, List.set_cons_succ, List.set_cons_zero]
      repeat (go_big_quiet_step (first | exact fun _ => rfl | rfl))
      refine wpQuiet_nil ?_
      refine anyS_last 11 (by kernel_rfl) rfl rfl (by kernel_rfl) (by kernel_rfl) (fun we hWe K hK => ?_)
      subst hWe
      obtain ⟨W5, hW5⟩ : ∃ W, we.setCell ⟨bl, 4, none⟩ (.slice bv M2 dv) = W := ⟨_, rfl⟩
      rw [hW5] at hA6
      go_simp
      refine hK _ _ ?_
      clear hK K k5 f5
      go_wp2_with fail
      have h1 := hA6.out
      rw [List.append_assoc, ← hst.out] at h1
      rw [show hs ++ (ps.take i).map leafH ++ [y] = hs ++ (ps.take (i + 1)).map leafH by rw [hst.out, List.map_append, List.append_assoc, ← hy.out]; rfl] at h1
      exact ⟨⟨i + 1, _, _, by omega, by go_num, ⟨h1⟩⟩, by simp [intOf]; omega⟩
    · obtain rfl : i = n := by omega
      have he : ps.take i = ps := List.take_of_length_le (by rw [hlen.out]; exact Nat.le_refl _)
      rw [he] at hA
      go_wp2_with fail
      go_end0
      exact ⟨rfl, x, y, hA.out⟩
end Go.Proofs.YthpfpkikmaiddaaGreatDoor.Tg
