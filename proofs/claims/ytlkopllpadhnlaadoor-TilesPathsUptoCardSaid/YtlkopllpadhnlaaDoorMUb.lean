/- The document's Make. | Parts of a list's tree: level, halves; a source of tiles; a reader in memory. | A source of tiles; a reader in memory; its text. | The reader's text: a tile's text, which the source is asked for once. -/
import Derived.Test.YtlkopllpadhnlaaDoorMUa
import Derived.Test.YtlkopllpadhnlaaDoorQz
namespace Go.Proofs.YtlkopllpadhnlaaDoor
open Go Go.RowKit

/-- The leaves under the node k of the height 2L. -/
def undT (l : List ByteArray) (L k : Nat) : List ByteArray := (l.drop (k * 4 ^ L)).take (4 ^ L)
/-- The first j hashes of a tile's text. -/
def makeT (l : List ByteArray) (L I : Nat) : Nat → ByteArray
  | 0 => ByteArray.empty
  | j + 1 => makeT l L I j ++ rootL (undT l L (4 * I + j))
def makE (l : List ByteArray) (L I W : Int) : Int := if okT L I W = true then (if max 0 (widN l.length L.toNat I.toNat) < W then 5 else 0) else 1
def makT (l : List ByteArray) (L I W : Int) : ByteArray := if makE l L I W = 0 then makeT l L.toNat I.toNat W.toNat else ByteArray.empty
theorem makeT_succ (l : List ByteArray) (L I j : Nat) : makeT l L I (j + 1) = makeT l L I j ++ rootL (undT l L (4 * I + j)) := rfl
theorem undT_q (l : List ByteArray) (L k q : Nat) (h : 4 ^ L = q) : undT l L k = (l.drop (k * q)).take q := by unfold undT; rw [h]
theorem und_fit {l : List ByteArray} (h : Fit l) (L k : Nat) : Fit (undT l L k) := (h.drop _).take _
theorem makeT_size {l : List ByteArray} (h : Fit l) (L I : Nat) : ∀ j, (makeT l L I j).size ≤ j * 70000000000000
  | 0 => Nat.zero_le _
  | j + 1 => by
    have := makeT_size h L I j
    have := root_size _ (und_fit h L (4 * I + j))
    rw [makeT, ByteArray.size_append]; omega
/-- A tile that is there: its leaves are there. -/
theorem wid_in {n L I W : Nat} (h : (W : Int) ≤ widN n L I) (j : Nat) (hj : j < W) : (4 * I + j + 1) * 4 ^ L ≤ n ∧ 4 ^ L ≤ n ∧ (4 * I + j) * 4 ^ L ≤ n := by
  have h2 : 4 * I + j + 1 ≤ nodN n L := by unfold widN at h; omega
  have h3 : nodN n L * 4 ^ L ≤ n := Nat.div_mul_le_self n (4 ^ L)
  have h4 : (4 * I + j + 1) * 4 ^ L ≤ nodN n L * 4 ^ L := Nat.mul_le_mul_right _ h2
  generalize 4 ^ L = q at *
  rw [Nat.add_mul, Nat.one_mul] at h4
  rw [Nat.add_mul, Nat.one_mul]
  generalize (4 * I + j) * q = r at *
  omega
set_option maxHeartbeats 3200000 in
set_option maxRecDepth 100000 in
theorem dmake_any (l : List ByteArray) (L I W : Int) (n : Nat) (a : Option Addr) (c : Nat) (w : World) (hP : PA w a n c l) (hF : Fit l) (hn : n < 9223372036854775808) :
    Calls Tryd.prog 17 #[.slice a n c, tv L I W] w fun e w' => e = .returned (.tuple #[.string (makT l L I W), .int .i64 (makE l L I W)]) ∧ Below w.heap.size w w' := by
  have hbx := bel_alloc w (.cells #[.int .i64 L, .int .i64 I, .int .i64 W] 26)
  have hG := fit_any L I W (w.alloc (.cells #[.int .i64 L, .int .i64 I, .int .i64 W] 26))
  have hc := fun w1 h => Box3.of (x := .int .i64 L) (y := .int .i64 I) (z := .int .i64 W) (t := 26) (w := w) (w1 := w1) rfl h
  unfold tv at *
  replace hc := Box.mk hc
  replace hbx := Box.mk hbx
  cases ho : okT L I W with
  | false =>
    have hE : makE l L I W = 1 := by unfold makE; rw [ho]; rfl
    have hT : makT l L I W = ByteArray.empty := by unfold makT; rw [hE]; rfl
    rw [hE, hT]
    rw [ho] at hG
    clear ho hE hT hP hF hn hc
    go_enter Tryd.func17, Tryd.ntmps17
    go_wp2_with fail
    refine hG.mono ?_
    clear hG
    rintro e w1 ⟨rfl, hb1⟩
    replace hb1 := Box.mk hb1
    go_wp2_with fail
    go_returns
    exact ⟨rfl, mono_bel hbx.out hb1.out (Nat.le_refl _)⟩
  | true =>
    rw [ho] at hG
    obtain ⟨L, I, W, rfl, rfl, rfl, hL30, hI, hW1, hW4⟩ := nats ho
    have hWd := fun w' => dwidth_any n L I w' hn (by omega) hI
    have hE : makE l L I W = if max 0 (widN n L I) < (W : Int) then 5 else 0 := by unfold makE; rw [if_pos ho, hP.len, Int.toNat_natCast, Int.toNat_natCast]
    have hT : makT l L I W = if makE l L I W = 0 then makeT l L I W else ByteArray.empty := by unfold makT; rw [Int.toNat_natCast, Int.toNat_natCast, Int.toNat_natCast]
    have hin := fun h => wid_in (n := n) (L := L) (I := I) (W := W) h
    obtain ⟨X, hX⟩ : ∃ X, widN n L I = X := ⟨_, rfl⟩
    rw [hX] at hE hWd hin
    obtain ⟨M, hM⟩ : ∃ M, max 0 X = M := ⟨_, rfl⟩
    rw [hM] at hE hWd
    obtain ⟨E, hEe⟩ : ∃ E, makE l L I W = E := ⟨_, rfl⟩
    rw [hEe] at hE hT ⊢
    obtain ⟨T, hTe⟩ : ∃ T, makT l L I W = T := ⟨_, rfl⟩
    rw [hTe] at hT ⊢
    by_cases hlt : M < (W : Int)
    · rw [if_pos hlt] at hE
      have hT2 : T = ByteArray.empty := by rw [hT, hE]; rfl
      replace hWd := Box.mk hWd
      replace hE := Box.mk hE
      replace hT2 := Box.mk hT2
      clear hin hX hM hEe hTe hT ho hP hF
      go_enter Tryd.func17, Tryd.ntmps17
      go_wp2_with fail
      refine hG.mono ?_
      clear hG
      rintro e w1 ⟨rfl, hb1⟩
      have hc1 := Box.mk (hc.out w1 hb1)
      have hb1' := Box.mk (mono_bel hbx.out hb1 (Nat.le_refl _))
      clear hc hb1 hbx
      go_wp2_with fail
      refine region_quiet (fun w' => Below w1.heap.size w1 w') (by kernel_rfl) (by kernel_rfl) (dB _) ?_
      repeat (go_big_quiet_step (first | exact fun _ => rfl | rfl))
      refine quiet_val rfl (.int .i64 L) (fun w' hw' => by have h3 := (hc1.out w' hw').1; go_simp) ?_
      simp only [Act.put, List.setIfInBounds_toArray, List.set_cons_succ, List.set_cons_zero]
      repeat (go_big_quiet_step (first | exact fun _ => rfl | rfl))
      refine quiet_val rfl (.int .i64 I) (fun w' hw' => by have h3 := (hc1.out w' hw').2.1; go_simp) ?_
      simp only [Act.put, List.setIfInBounds_toArray, List.set_cons_succ, List.set_cons_zero]
      repeat (go_big_quiet_step (first | exact fun _ => rfl | rfl))
      refine quiet_call rfl (.int .i64 M) (fun w' hw' => (hWd.out w').mono fun e w2 h => ⟨h.1, h.2 ▸ hw'⟩) (fun w' _ => by go_simp) ?_
      simp only [Act.put, List.setIfInBounds_toArray, List.set_cons_succ, List.set_cons_zero]
      repeat (go_big_quiet_step (first | exact fun _ => rfl | rfl))
      refine quiet_val rfl (.int .i64 W) (fun w' hw' => by have h3 := (hc1.out w' hw').2.2; go_simp) ?_
      simp only [Act.put, List.setIfInBounds_toArray, List.set_cons_succ, List.set_cons_zero]
      repeat (go_big_quiet_step (first | exact fun _ => rfl | rfl))
      refine wpQuiet_nil ?_
      intro w2 hw2
      have hb2 := Box.mk (mono_bel hb1'.out hw2 (Nat.le_refl _))
      clear hc1 hw2 hb1' hWd
      go_wp2_with fail
      go_returns
      exact ⟨by rw [hE.out, hT2.out]; rfl, hb2.out⟩
    · rw [if_neg hlt] at hE
      have hXW : (W : Int) ≤ X := by omega
      have hT2 : T = makeT l L I W := by rw [hT, hE]; rfl
      have hin2 := Box.mk (hin hXW)
      have hq := pow4_le L hL30
      have hq2 : ((4 ^ L : Nat) : Int) = (2 : Int) ^ (2 * L) := by rw [pow4, Int.natCast_pow]; rfl
      have hqw : wrap64 ((2 : Int) ^ (2 * L)) = ((4 ^ L : Nat) : Int) := by
        rw [← hq2]
        have := Nat.pow_pos (n := L) (show 0 < 4 by decide)
        generalize 4 ^ L = q at *
        unfold wrap64; omega
      have hsz := Box.mk (makeT_size hF L I)
      have huf := Box.mk (fun k => und_fit hF L k)
      have h1n := (hin hXW 0 (by omega)).2.1
      have hpos := Nat.pow_pos (n := L) (show 0 < 4 by decide)
      obtain ⟨q, hqe⟩ : ∃ q, 4 ^ L = q := ⟨_, rfl⟩
      have hU := Box.mk (fun j => undT_q l L (4 * I + j) q hqe)
      rw [hqe] at hq hqw hin2 h1n hpos
      replace hWd := Box.mk hWd
      replace hE := Box.mk hE
      replace hT2 := Box.mk hT2
      replace hP := Box.mk hP
      replace hlt := Box.mk hlt
      replace hqe := Box.mk hqe
      obtain ⟨blk, off, hae, _, _⟩ := hP.out.at_ (Nat.lt_of_lt_of_le hpos h1n)
      subst hae
      clear hin hX hM hEe hTe hT ho hq2 hXW
      go_enter Tryd.func17, Tryd.ntmps17
      go_wp2_with fail
      refine hG.mono ?_
      clear hG
      rintro e w1 ⟨rfl, hb1⟩
      have hc1 := Box.mk (hc.out w1 hb1)
      have hb1' := Box.mk (mono_bel hbx.out hb1 (Nat.le_refl _))
      clear hc hb1 hbx
      replace hlt := hlt.out
      go_wp2_with fail
      refine region_quiet (fun w' => Below w1.heap.size w1 w') (by kernel_rfl) (by kernel_rfl) (dB _) ?_
      repeat (go_big_quiet_step (first | exact fun _ => rfl | rfl))
      refine quiet_val rfl (.int .i64 L) (fun w' hw' => by have h3 := (hc1.out w' hw').1; go_simp) ?_
      simp only [Act.put, List.setIfInBounds_toArray, List.set_cons_succ, List.set_cons_zero]
      repeat (go_big_quiet_step (first | exact fun _ => rfl | rfl))
      refine quiet_val rfl (.int .i64 I) (fun w' hw' => by have h3 := (hc1.out w' hw').2.1; go_simp) ?_
      simp only [Act.put, List.setIfInBounds_toArray, List.set_cons_succ, List.set_cons_zero]
      repeat (go_big_quiet_step (first | exact fun _ => rfl | rfl))
      refine quiet_call rfl (.int .i64 M) (fun w' hw' => (hWd.out w').mono fun e w2 h => ⟨h.1, h.2 ▸ hw'⟩) (fun w' _ => by go_simp) ?_
      simp only [Act.put, List.setIfInBounds_toArray, List.set_cons_succ, List.set_cons_zero]
      repeat (go_big_quiet_step (first | exact fun _ => rfl | rfl))
      refine quiet_val rfl (.int .i64 W) (fun w' hw' => by have h3 := (hc1.out w' hw').2.2; go_simp) ?_
      simp only [Act.put, List.setIfInBounds_toArray, List.set_cons_succ, List.set_cons_zero]
      repeat (go_big_quiet_step (first | exact fun _ => rfl | rfl))
      refine wpQuiet_nil ?_
      intro w2 hw2
      have hb2 := Box.mk (mono_bel hb1'.out hw2 (Nat.le_refl _))
      have hc2 := Box.mk (hc1.out.on hw2)
      have hP2 := Box.mk (hP.out.here hb2.out)
      obtain ⟨c0, c1, c2⟩ := hc2.out.now
      clear hc1 hw2 hb1' hWd hP
      go_wp2_with fail
      simp only [hqw]
      go_loopw [7, 8, 9] (fun v7 v8 _ wr => ∃ j : Nat, j ≤ W ∧ v8 = .int .i64 (j : Int) ∧ v7 = .string (makeT l L I j) ∧ Box (Below w.heap.size w wr ∧ Box3 w.heap.size (.int .i64 L) (.int .i64 I) (.int .i64 W) wr ∧ PA wr (some ⟨blk, off, none⟩) n c l)) (fun _ v8 _ _ => W - (intOf v8).toNat)
      case atStart => exact ⟨0, by omega, rfl, rfl, ⟨hb2.out, hc2.out, hP2.out⟩⟩
      case round =>
        clear hb2 hc2 hP2 c0 c1 c2
        obtain ⟨j, hj, rfl, rfl, hA⟩ := hrel
        obtain ⟨c0, c1, c2⟩ := hA.out.2.1.now
        by_cases hjW : j < W
        · obtain ⟨k1, k2, k3⟩ := hin2.out j hjW
          obtain ⟨s, hs⟩ : ∃ s, (4 * I + j) * q = s := ⟨_, rfl⟩
          have ks : s + q ≤ n := by rw [Nat.add_mul, Nat.one_mul, hs] at k1; exact k1
          rw [hs] at k3
          have hPj := ((hA.out.2.2).drop (k := s) k3).take (k := q) (by omega)
          have hUj := hU.out j
          rw [hs] at hUj
          rw [← hUj] at hPj
          have hRt := rroot_any q (undT l L (4 * I + j)) _ _ wr hPj (huf.out _)
          have hrs := root_size _ (huf.out (4 * I + j))
          have hmk := makeT_succ l L I j
          have hms := hsz.out j
          obtain ⟨R, hR⟩ : ∃ R, rootL (undT l L (4 * I + j)) = R := ⟨_, rfl⟩
          rw [hR] at hRt hrs hmk
          obtain ⟨Y, hY⟩ : ∃ Y, makeT l L I j = Y := ⟨_, rfl⟩
          rw [hY] at hms hmk ⊢
          have hm1 : (4 * (I : Int) + (j : Int)) * (q : Int) = (s : Int) := by rw [← hs]; simp
          have hm2 : (4 * (I : Int) + (j : Int) + 1) * (q : Int) = ((s + q : Nat) : Int) := by rw [← hs]; simp [Int.add_mul]
          have hcap := hA.out.2.2.cap
          have htop := hA.out.2.2.top
          have hjI : (j : Int) < (W : Int) := by omega
          replace hmk := Box.mk hmk
          clear hR hY hPj hs k1 hUj hlt
          go_wp2_with fail
          refine hRt.mono ?_
          rintro e w3 ⟨rfl, hb3⟩
          have hA3 : Box (Below w.heap.size w w3 ∧ Box3 w.heap.size (.int .i64 (L : Int)) (.int .i64 (I : Int)) (.int .i64 (W : Int)) w3 ∧ PA w3 (some ⟨blk, off, none⟩) n c l) := ⟨mono_bel hA.out.1 hb3 (Nat.le_refl _), hA.out.2.1.on hb3, hA.out.2.2.here hb3⟩
          clear hRt hb3 hA c0 c1 c2
          go_wp2_with fail
          refine ⟨⟨j + 1, by omega, by go_num, by rw [hmk.out], hA3⟩, by simp [intOf]; omega⟩
        · obtain rfl : j = W := by omega
          have hjj : ¬ (j : Int) < (j : Int) := by omega
          have hY := Box.mk (rfl : makeT l L I j = makeT l L I j)
          rw [← hT2.out]
          clear hlt
          go_wp2_with fail
          go_returns
          exact ⟨by rw [hE.out]; rfl, hA.out.1⟩
end Go.Proofs.YtlkopllpadhnlaaDoor

namespace Go.Proofs.YtlkopllpadhnlaaDoor
open Go Go.RowKit

/-- The level whose tiles have the node over so many leaves. -/
def lvP (s : Nat) : Option Nat := if s = 1 then some 0 else if s = 4 then some 1 else if s = 16 then some 2 else if s = 64 then some 3 else if s = 256 then some 4 else if s = 1024 then some 5 else none
theorem lvP_some {s L : Nat} (h : lvP s = some L) : s = 4 ^ L ∧ L ≤ 5 := by
  unfold lvP at h
  repeat' split at h
  all_goals first | (injection h with h; subst h; subst_vars; exact ⟨by decide, by decide⟩) | cases h
theorem tz_fact : ∀ s : Fin 1025, s.val ≠ 0 → Lib.ctz 64 s.val ≤ 10 ∧ (2 ^ Lib.ctz 64 s.val = s.val ∧ Lib.ctz 64 s.val % 2 = 0 → lvP s.val = some (Lib.ctz 64 s.val / 2)) ∧ (¬ (2 ^ Lib.ctz 64 s.val = s.val ∧ Lib.ctz 64 s.val % 2 = 0) → lvP s.val = none) := by decide +kernel
def pv (f s : Nat) : Value := .agg #[.int .i64 (f : Int), .int .i64 (s : Int)]
/-- A box of two cells that stays. -/
def Box2 (b : Nat) (x y : Value) (w : World) : Prop := ∀ w', Below w.heap.size w w' → w'.cell? ⟨b, 0, none⟩ = some x ∧ w'.cell? ⟨b, 1, none⟩ = some y
theorem Box2.of {b : Nat} {x y : Value} {t : TypeId} {w w1 : World} (hb : w.heap.size = b) (h : Below (w.alloc (.cells #[x, y] t)).heap.size (w.alloc (.cells #[x, y] t)) w1) : Box2 b x y w1 := fun w' h' => by
  subst hb
  have k : Pk.Blk w' w.heap.size [x, y] t := ((h.trans (h'.mono h.size)).block _ (by simp)).trans (Pk.Blk.new w _ _)
  exact ⟨k.cell 0, k.cell 1⟩
theorem Box2.now {b : Nat} {x y : Value} {w : World} (h : Box2 b x y w) : w.cell? ⟨b, 0, none⟩ = some x ∧ w.cell? ⟨b, 1, none⟩ = some y := h w (Below.refl _ _)
theorem Box2.on {b : Nat} {x y : Value} {w w' : World} (h : Box2 b x y w) (hb : Below w.heap.size w w') : Box2 b x y w' := fun w2 h2 => h w2 (mono_bel hb h2 (Nat.le_refl _))
/-- What level answers. -/
def LvIs (s : Nat) (w : World) (e : Ending) (w' : World) : Prop := (∃ x : Int, e = .returned (.tuple #[.int .i64 x, .bool (lvP s).isSome]) ∧ ∀ L, lvP s = some L → x = (L : Int)) ∧ Below w.heap.size w w'
set_option maxHeartbeats 1600000 in
set_option maxRecDepth 100000 in
theorem level_any (f s : Nat) (w : World) (hT : TIs w) (h1 : 1 ≤ s) (h2 : s ≤ 1024) :
    Calls Tryd.prog 65 #[pv f s] w (LvIs s w) := by
  have hZ := fun w' (hb : Below w.heap.size w w') => tz_any s (by omega) (by omega) w' (hT.below hb hT.lt)
  obtain ⟨k1, k2, k3⟩ := tz_fact ⟨s, by omega⟩ (by show s ≠ 0; omega)
  simp only at k1 k2 k3
  have hu : IntKind.u64.wrap (s : Int) = (s : Int) := by rw [IntKind.wrap_u64]; omega
  have hb0 := bel_alloc w (.cells #[.int .i64 (f : Int), .int .i64 (s : Int)] 96)
  have hc := Box.mk (Box2.of (x := .int .i64 (f : Int)) (y := .int .i64 (s : Int)) (t := 96) (w := w) (w1 := w.alloc (.cells #[.int .i64 (f : Int), .int .i64 (s : Int)] 96)) rfl (Below.refl _ _))
  obtain ⟨h, hh⟩ : ∃ h, Lib.ctz 64 s = h := ⟨_, rfl⟩
  rw [hh] at hZ k1 k2 k3
  have hp : ((2 ^ h : Nat) : Int) = (2 : Int) ^ h := by rw [Int.natCast_pow]; rfl
  have hp2 : (2 : Nat) ^ h ≤ 1024 := Nat.le_trans (Nat.pow_le_pow_right (by decide) k1) (by decide)
  have hpw : wrap64 ((2 : Int) ^ h) = ((2 ^ h : Nat) : Int) := by
    rw [← hp]; generalize 2 ^ h = q at *; unfold wrap64; omega
  have hz := hZ _ hb0
  replace hb0 := Box.mk hb0
  clear hT hZ hh hp
  unfold pv LvIs
  by_cases hq : 2 ^ h = s
  · have g1 : (wrap64 ((2 : Int) ^ h) == (s : Int)) = true := by rw [hpw, hq]; simp
    by_cases hm : h % 2 = 0
    · have hl := Box.mk (k2 ⟨hq, hm⟩)
      have g2 : ((h : Int) % 2 == 0) = true := by simp; omega
      clear k2 k3
      go_enter Tryd.func65, Tryd.ntmps65
      go_wp2_with fail
      refine hz.mono ?_
      clear hz
      rintro e w1 ⟨rfl, hw1⟩
      rw [hw1] at hc hb0
      clear hw1
      go_wp2_with fail
      refine region_quiet (fun w' => Below w1.heap.size w1 w') (by kernel_rfl) (by kernel_rfl) (dB _) ?_
      repeat (go_big_quiet_step (first | exact fun _ => rfl | rfl))
      refine quiet_val rfl (.int .i64 (s : Int)) (fun w' hw' => by have h3 := (hc.out w' hw').2; go_simp) ?_
      simp only [Act.put, List.setIfInBounds_toArray, List.set_cons_succ, List.set_cons_zero]
      repeat (go_big_quiet_step (first | exact fun _ => rfl | rfl))
      refine wpQuiet_nil ?_
      intro w2 hw2
      have hb2 := Box.mk (mono_bel hb0.out hw2 (Nat.le_refl _))
      clear hw2 hc hb0
      go_wp2_with fail
      go_returns
      exact ⟨⟨((h / 2 : Nat) : Int), by rw [hl.out]; rfl, fun L hL => by rw [hl.out] at hL; injection hL with hL; rw [hL]⟩, hb2.out⟩
    · have hl := Box.mk (k3 fun h => hm h.2)
      have g2 : ((h : Int) % 2 == 0) = false := by simp; omega
      clear k2 k3
      go_enter Tryd.func65, Tryd.ntmps65
      go_wp2_with fail
      refine hz.mono ?_
      clear hz
      rintro e w1 ⟨rfl, hw1⟩
      rw [hw1] at hc hb0
      clear hw1
      go_wp2_with fail
      refine region_quiet (fun w' => Below w1.heap.size w1 w') (by kernel_rfl) (by kernel_rfl) (dB _) ?_
      repeat (go_big_quiet_step (first | exact fun _ => rfl | rfl))
      refine quiet_val rfl (.int .i64 (s : Int)) (fun w' hw' => by have h3 := (hc.out w' hw').2; go_simp) ?_
      simp only [Act.put, List.setIfInBounds_toArray, List.set_cons_succ, List.set_cons_zero]
      repeat (go_big_quiet_step (first | exact fun _ => rfl | rfl))
      refine wpQuiet_nil ?_
      intro w2 hw2
      have hb2 := Box.mk (mono_bel hb0.out hw2 (Nat.le_refl _))
      clear hw2 hc hb0
      go_wp2_with fail
      go_returns
      exact ⟨⟨((h / 2 : Nat) : Int), by rw [hl.out]; rfl, fun L hL => by rw [hl.out] at hL; cases hL⟩, hb2.out⟩
  · have hl := Box.mk (k3 fun h => hq h.1)
    obtain ⟨q, hqe⟩ : ∃ q, 2 ^ h = q := ⟨_, rfl⟩
    rw [hqe] at hpw hq hp2
    have g1 : ((q : Int) == (s : Int)) = false := by simp; omega
    have g3 : (wrap64 ((2 : Int) ^ h) == (s : Int)) = false := by rw [hpw, g1]
    clear hqe
    clear k2 k3
    go_enter Tryd.func65, Tryd.ntmps65
    go_wp2_with fail
    refine hz.mono ?_
    clear hz
    rintro e w1 ⟨rfl, hw1⟩
    rw [hw1] at hc hb0
    clear hw1
    go_wp2_with fail
    refine region_quiet (fun w' => Below w1.heap.size w1 w') (by kernel_rfl) (by kernel_rfl) (dB _) ?_
    repeat (go_big_quiet_step (first | exact fun _ => rfl | rfl))
    refine quiet_val rfl (.int .i64 (s : Int)) (fun w' hw' => by have h3 := (hc.out w' hw').2; go_simp) ?_
    simp only [Act.put, List.setIfInBounds_toArray, List.set_cons_succ, List.set_cons_zero]
    repeat (go_big_quiet_step (first | exact fun _ => rfl | rfl))
    refine wpQuiet_nil ?_
    intro w2 hw2
    have hb2 := Box.mk (mono_bel hb0.out hw2 (Nat.le_refl _))
    clear hw2 hc hb0
    go_wp2_with fail
    go_returns
    exact ⟨⟨((h / 2 : Nat) : Int), by rw [hl.out]; rfl, fun L hL => by rw [hl.out] at hL; cases hL⟩, hb2.out⟩
theorem st_eqD {B C : World → Prop} (h : ∀ w, C w → B w) : St B (fun w w' => w = w') C := ⟨h, fun _ _ hC e => e ▸ hC⟩
theorem region_steadyD {P : Program} (B C : World → Prop) (R : World → World → Prop) {id : Nat} {Q : Exit → Act → World → Prop} {a : Act} {w : World} {l : List Oper} (hm : P.follows .mixedOrders = true) (hC : C w.drew)
    (h : anyS P .any l.toArray B R (Q .normal) l.length (Array.replicate l.length false) a C) : (Code.region id l.toArray true).wp P Q a w := by
  refine wp_region_any hm ?_
  have h2 := any_of_S (fun _ _ h => h) _ _ _ _ _ hC h
  simpa using h2
theorem lvP_one : lvP 1 = some 0 := rfl
/-- In halves: the part's box, the two answers' cells. -/
structure HV (w0 : World) (f s a b c d : Int) (w : World) : Prop where
  b0 : Pk.Blk w w0.heap.size [.int .i64 f, .int .i64 s] 96
  b1 : Pk.Blk w (w0.heap.size + 1) [.int .i64 a, .int .i64 b] 96
  b2 : Pk.Blk w (w0.heap.size + 1 + 1) [.int .i64 c, .int .i64 d] 96
  bel : Below w0.heap.size w0 w
theorem HV.set1 {w0 w : World} {f s a b c d : Int} (h : HV w0 f s a b c d w) (x y : Int) : HV w0 f s x y c d ((w.setCell ⟨w0.heap.size + 1, 0, none⟩ (.int .i64 x)).setCell ⟨w0.heap.size + 1, 1, none⟩ (.int .i64 y)) :=
  ⟨((Below.heap_setCell _ _ _ _ (by simp)).trans (Below.heap_setCell _ _ _ _ (by simp))).trans h.b0, (h.b1.setCell 0 _).setCell 1 _, ((Below.heap_setCell _ _ _ _ (by simp)).trans (Below.heap_setCell _ _ _ _ (by simp))).trans h.b2,
    (h.bel.setCell (p := ⟨w0.heap.size + 1, 0, none⟩) (by simp) _).setCell (p := ⟨w0.heap.size + 1, 1, none⟩) (by simp) _⟩
theorem HV.set2 {w0 w : World} {f s a b c d : Int} (h : HV w0 f s a b c d w) (x y : Int) : HV w0 f s a b x y ((w.setCell ⟨w0.heap.size + 1 + 1, 0, none⟩ (.int .i64 x)).setCell ⟨w0.heap.size + 1 + 1, 1, none⟩ (.int .i64 y)) :=
  ⟨((Below.heap_setCell _ _ _ _ (by simp; omega)).trans (Below.heap_setCell _ _ _ _ (by simp; omega))).trans h.b0, ((Below.heap_setCell _ _ _ _ (by simp)).trans (Below.heap_setCell _ _ _ _ (by simp))).trans h.b1, (h.b2.setCell 0 _).setCell 1 _,
    (h.bel.setCell (p := ⟨w0.heap.size + 1 + 1, 0, none⟩) (by simp; omega) _).setCell (p := ⟨w0.heap.size + 1 + 1, 1, none⟩) (by simp; omega) _⟩
/-- What halves answers. -/
def hvV (f s : Nat) : Value := .tuple #[pv f (cutN s), pv (f + cutN s) (s - cutN s)]
set_option maxHeartbeats 1600000 in
set_option maxRecDepth 100000 in
theorem halves_any (f s : Nat) (w : World) (h2 : 2 ≤ s) (hs : s ≤ 1024) (hf : f ≤ 1024) :
    Calls Tryd.prog 67 #[pv f s] w fun e w' => e = .returned (hvV f s) ∧ Below w.heap.size w w' := by
  have hF := fun w' => len_any (s - 1) w' (by omega) (by omega)
  rw [show ((s - 1 : Nat) : Int) = (s : Int) - 1 by omega] at hF
  have hu : IntKind.u64.wrap ((s : Int) - 1) = (s : Int) - 1 := by rw [IntKind.wrap_u64]; omega
  have hlt := cutN_lt h2
  have hk0 := cutN_pos s
  have hsm : (s - 1).log2 < 10 := (Nat.log2_lt (by omega)).2 (by omega)
  have hcw : wrap64 ((2 : Int) ^ (s - 1).log2) = ((cutN s : Nat) : Int) := by
    rw [← show ((2 ^ (s - 1).log2 : Nat) : Int) = (2 : Int) ^ (s - 1).log2 from Int.natCast_pow 2 _]
    show wrap64 ((cutN s : Nat) : Int) = _
    unfold wrap64; omega
  obtain ⟨L, hL⟩ : ∃ L, (s - 1).log2 = L := ⟨_, rfl⟩
  rw [hL] at hF hsm hcw
  obtain ⟨k, hk⟩ : ∃ k, cutN s = k := ⟨_, rfl⟩
  unfold hvV pv
  rw [hk] at hlt hk0 hcw ⊢
  have hb0 : Below w.heap.size w (((w.alloc (.cells #[.int .i64 (f : Int), .int .i64 (s : Int)] 96)).alloc (.cells #[.int .i64 0, .int .i64 0] 96)).alloc (.cells #[.int .i64 0, .int .i64 0] 96)) := mono_bel (mono_bel (bel_alloc _ _) (bel_alloc _ _) (Nat.le_refl _)) (bel_alloc _ _) (Nat.le_refl _)
  obtain ⟨W0, hW0⟩ : ∃ W0, (((w.alloc (.cells #[.int .i64 (f : Int), .int .i64 (s : Int)] 96)).alloc (.cells #[.int .i64 0, .int .i64 0] 96)).alloc (.cells #[.int .i64 0, .int .i64 0] 96)) = W0 := ⟨_, rfl⟩
  have hB : Pk.Blk W0 w.heap.size [.int .i64 (f : Int), .int .i64 (s : Int)] 96 ∧ Pk.Blk W0 (w.heap.size + 1) [.int .i64 0, .int .i64 0] 96 ∧ Pk.Blk W0 (w.heap.size + 1 + 1) [.int .i64 0, .int .i64 0] 96 := by
    rw [← hW0]
    refine ⟨((Below.heap_alloc _ _ _ (by simp; omega)).trans (Below.heap_alloc _ _ _ (by simp))).trans (Pk.Blk.new w _ _), ?_, ?_⟩
    · have := Pk.Blk.new (w.alloc (.cells #[.int .i64 (f : Int), .int .i64 (s : Int)] 96)) [.int .i64 0, .int .i64 0] 96
      rw [show (w.alloc (.cells #[.int .i64 (f : Int), .int .i64 (s : Int)] 96)).heap.size = w.heap.size + 1 by simp] at this
      exact (Below.heap_alloc _ _ _ (by simp)).trans this
    · have := Pk.Blk.new ((w.alloc (.cells #[.int .i64 (f : Int), .int .i64 (s : Int)] 96)).alloc (.cells #[.int .i64 0, .int .i64 0] 96)) [.int .i64 0, .int .i64 0] 96
      simpa using this
  rw [hW0] at hb0
  have hH0 : Box (HV w f s 0 0 0 0 W0.drew) := ⟨⟨hB.1, hB.2.1, hB.2.2, hb0.drew⟩⟩
  replace hF := Box.mk hF
  clear hB hb0
  replace hW0 := Box.mk hW0
  clear hL hk
  go_enter Tryd.func67, Tryd.ntmps67
  go_wp2_with fail
  refine (hF.out _).mono ?_
  rintro e w1 ⟨rfl, hw1⟩
  subst hw1
  rw [hW0.out]
  clear hW0 hF
  have k0 : Box (∀ w', Pk.Blk w' w.heap.size [.int .i64 (f : Int), .int .i64 (s : Int)] 96 → w'.cell? ⟨w.heap.size, 0, none⟩ = some (.int .i64 (f : Int)) ∧ w'.cell? ⟨w.heap.size, 1, none⟩ = some (.int .i64 (s : Int))) := ⟨fun w' h => ⟨h.cell 0, h.cell 1⟩⟩
  go_wp2_with fail
  refine region_steadyD (fun w' => Pk.Blk w' w.heap.size [.int .i64 (f : Int), .int .i64 (s : Int)] 96) (HV w f s 0 0 0 0) (fun w w' => w = w') rfl hH0.out ?_
  refine anyS_calms [0, 1, 2, 3, 4, 5, 6, 7, 8, 9, 10, 11, 12] 2 rfl (fun _ => rfl) (st_eqD fun w' e => e.b0) (by kernel_rfl) (by kernel_rfl) (by kernel_rfl) ?_
  simp [nth]
  try simp only [Act.put, List.setIfInBounds_toArray, List.set_cons_succ, List.set_cons_zero]
  repeat (go_big_quiet_step (first | exact fun _ => rfl | rfl))
  refine quiet_val rfl (.int .i64 (f : Int)) (fun w' hw' => by have h3 := (k0.out w' hw').1; go_simp) ?_
  simp only [Act.put, List.setIfInBounds_toArray, List.set_cons_succ, List.set_cons_zero]
  repeat (go_big_quiet_step (first | exact fun _ => rfl | rfl))
  refine quiet_val rfl (.int .i64 (f : Int)) (fun w' hw' => by have h3 := (k0.out w' hw').1; go_simp) ?_
  simp only [Act.put, List.setIfInBounds_toArray, List.set_cons_succ, List.set_cons_zero]
  repeat (go_big_quiet_step (first | exact fun _ => rfl | rfl))
  refine quiet_val rfl (.int .i64 (s : Int)) (fun w' hw' => by have h3 := (k0.out w' hw').2; go_simp) ?_
  simp only [Act.put, List.setIfInBounds_toArray, List.set_cons_succ, List.set_cons_zero]
  repeat (go_big_quiet_step (first | exact fun _ => rfl | rfl))
  refine wpQuiet_nil ?_
  refine anyS_forced 13 (by kernel_rfl) rfl rfl (fun wa hWa K hK => ?_)
  have hA := Box.mk (hWa.set1 (f : Int) (k : Int))
  have d0 := hWa.b1.cell 0
  have d1 := hWa.b1.cell 1
  have f0 := hWa.b1.free 0
  have f1 := hWa.b1.free 1
  simp only [List.getElem?_cons_zero, List.getElem?_cons_succ] at d0 d1
  clear hWa
  go_simp
  refine hK _ _ (HV w f s f k 0 0) (st_eqD fun w' e => e.b0) hA.out ?_
  clear hK K hA d0 d1 f0 f1
  refine anyS_last 14 (by kernel_rfl) rfl rfl (by kernel_rfl) (by kernel_rfl) (fun wb hWb K hK => ?_)
  have hA := Box.mk (hWb.set2 ((f : Int) + (k : Int)) ((s : Int) - (k : Int)))
  have d0 := hWb.b2.cell 0
  have d1 := hWb.b2.cell 1
  have f0 := hWb.b2.free 0
  have f1 := hWb.b2.free 1
  simp only [List.getElem?_cons_zero, List.getElem?_cons_succ] at d0 d1
  clear hWb
  obtain ⟨wf, hwf⟩ : ∃ wf, ((wb.setCell ⟨w.heap.size + 1 + 1, 0, none⟩ (.int .i64 ((f : Int) + (k : Int)))).setCell ⟨w.heap.size + 1 + 1, 1, none⟩ (.int .i64 ((s : Int) - (k : Int)))) = wf := ⟨_, rfl⟩
  rw [hwf] at hA
  go_simp
  refine hK _ _ ?_
  clear hK K d0 d1 f0 f1 hwf
  have e0 := hA.out.b1.cell 0
  have e1 := hA.out.b1.cell 1
  have e2 := hA.out.b2.cell 0
  have e3 := hA.out.b2.cell 1
  simp only [List.getElem?_cons_zero, List.getElem?_cons_succ] at e0 e1 e2 e3
  have hr : ((f : Int) + (k : Int)) = ((f + k : Nat) : Int) ∧ ((s : Int) - (k : Int)) = ((s - k : Nat) : Int) := ⟨by omega, by omega⟩
  rw [hr.1] at e2
  rw [hr.2] at e3
  replace hr := Box.mk hr
  go_wp2_with fail
  refine bodyPost_ret (v := .tuple #[.agg #[.int .i64 (f : Int), .int .i64 (k : Int)], .agg #[.int .i64 ((f + k : Nat) : Int), .int .i64 ((s - k : Nat) : Int)]]) (by simp [results, Tryd.results67, go_sem, e0, e1, e2, e3]; try rfl) rfl ⟨rfl, hA.out.bel⟩
end Go.Proofs.YtlkopllpadhnlaaDoor

namespace Go.Proofs.YtlkopllpadhnlaaDoor
open Go Go.RowKit

section
variable {P : Program} {ops : Array Oper} {md : Region.Mode} {B : World → Prop} {R : World → World → Prop}
/-- An operation that only reads (j) races with one that steps on (i): whichever goes first, one continuation. -/
theorem anyS_race2 {Q : Act → World → Prop} {C C2 : World → Prop} {fuel : Nat} {listed : Array Bool} {a : Act} {oi oj : Oper} (i j : Nat) (u v : Value) (hr : Region.ready md ops listed = [j, i]) (hri : Region.ready md ops (listed.setIfInBounds i true) = [j]) (hrj : Region.ready md ops (listed.setIfInBounds j true) = [i]) (hne : i ≠ j)
    (hi0 : ops[i]? = some oi) (hj0 : ops[j]? = some oj) (hiw : Region.wanted oi (yielded ops a.tmps) = true) (hjw : Region.wanted oj (yielded ops a.tmps) = true) (hjw2 : Region.wanted oj (yielded ops (a.put oi.dst u).tmps) = true) (hiw2 : Region.wanted oi (yielded ops (a.put oj.dst v).tmps) = true)
    (hd : (a.put oj.dst v).put oi.dst u = (a.put oi.dst u).put oj.dst v) (hS : St B R C) (hS2 : St B R C2)
    (hi : ∀ w, C w → ∀ K : Act → World → Prop, (∀ w', C2 w' → K (a.put oi.dst u) w') → oi.wp P a w K fun _ _ _ => False)
    (hj2 : ∀ w, C2 w → ∀ K : Act → World → Prop, K ((a.put oi.dst u).put oj.dst v) w → oj.wp P (a.put oi.dst u) w K fun _ _ _ => False)
    (hj : ∀ w, C w → ∀ K : Act → World → Prop, K (a.put oj.dst v) w → oj.wp P a w K fun _ _ _ => False)
    (hi2 : ∀ w, C w → ∀ K : Act → World → Prop, (∀ w', C2 w' → K ((a.put oj.dst v).put oi.dst u) w') → oi.wp P (a.put oj.dst v) w K fun _ _ _ => False)
    (h : anyS P md ops B R Q fuel ((listed.setIfInBounds i true).setIfInBounds j true) ((a.put oi.dst u).put oj.dst v) C2) : anyS P md ops B R Q (fuel + 2) listed a C :=
  anyS_fork j i hr hj0 hjw hi0 hiw
    (fun w hC K hK => hj w hC K (hK _ _ C hS hC (anyS_forced i hrj hi0 hiw2 fun w hC K hK => hi2 w hC K fun _ hC' => hK _ _ C2 hS2 hC' (by
      rw [hd, Array.setIfInBounds_comm _ _ (Ne.symm hne)]
      exact h))))
    (fun w hC K hK => hi w hC K fun _ hC' => hK _ _ C2 hS2 hC' (anyS_forced j hri hj0 hjw2 fun w hC K hK => hj2 w hC K (hK _ _ C2 hS2 hC h)))
end
structure Tl where
  L : Nat
  I : Nat
  W : Nat
  deriving DecidableEq
def tlv (t : Tl) : Value := tv t.L t.I t.W
def tlp (t : Tl) : ByteArray := pathT t.L t.I t.W
def TlOk (t : Tl) : Prop := t.L ≤ 5 ∧ t.I ≤ 255 ∧ 1 ≤ t.W ∧ t.W ≤ 4
/-- A tile of a list of n. -/
def TlN (n : Nat) (t : Tl) : Prop := TlOk t ∧ (t.W : Int) = widN n t.L t.I
/-- Where tiles are read from: what it answers, what it keeps in memory. -/
structure Src (B : Nat) where
  sv : Value
  iface : ∃ tp p, sv = .iface tp p
  ans : Tl → ByteArray × Int
  I : World → (Nat → Prop) → List Tl → Prop
  chg : ∀ {S : Nat → Prop} {w w' : World} {F : Nat → Prop} {A : List Tl}, I w F A → Pk.Chg S w w' → (∀ k, F k → ¬ S k) → (∀ k, S k → B ≤ k) → I w' F A
  sz : ∀ {w : World} {F : Nat → Prop} {A : List Tl}, I w F A → B ≤ w.heap.size
  lt : ∀ {w : World} {F : Nat → Prop} {A : List Tl}, I w F A → ∀ k, F k → B ≤ k ∧ k < w.heap.size
  size : ∀ t, (ans t).2 = 0 → (ans t).1.size = 32 * t.W
  none : ∀ t, (ans t).2 ≠ 0 → (ans t).1 = ByteArray.empty
  ask : ∀ (w : World) (F : Nat → Prop) (A : List Tl) (t : Tl), Ld B w → B ≤ w.heap.size → TlOk t → A.length ≤ 100000 → I w F A →
    Calls Tryd.prog 103 #[sv, tlv t] w fun e w' => e = .returned (.tuple #[.string (ans t).1, .int .i64 (ans t).2]) ∧ ∃ F', I w' F' (A ++ [t]) ∧ Pk.Chg F w w' ∧ ∀ k, F' k → F k ∨ w.heap.size ≤ k
def pgC (p : Tl × ByteArray) : List Value := [.int .i64 (p.1.L : Int), .int .i64 (p.1.I : Int), .int .i64 (p.1.W : Int), .string p.2]
def pgsC (ps : List (Tl × ByteArray)) : List Value := ps.flatMap pgC
theorem pgsC_length (ps : List (Tl × ByteArray)) : (pgsC ps).length = ps.length * 4 := by
  induction ps with
  | nil => rfl
  | cons p ps ih => rw [pgsC, List.flatMap_cons, List.length_append, List.length_cons, ← pgsC, ih]; simp [pgC]; omega
theorem pgsC_at : ∀ (ps : List (Tl × ByteArray)) (i : Nat) (p : Tl × ByteArray), ps[i]? = some p → ∀ j, j < 4 → (pgsC ps)[i * 4 + j]? = (pgC p)[j]?
  | [], i, p, h, _, _ => by simp at h
  | q :: ps, 0, p, h, j, hj => by
    obtain rfl : q = p := by simpa using h
    rw [pgsC, List.flatMap_cons, Nat.zero_mul, Nat.zero_add, List.getElem?_append_left (by simpa [pgC] using hj)]
  | q :: ps, i + 1, p, h, j, hj => by
    rw [pgsC, List.flatMap_cons, List.getElem?_append_right (by simp [pgC]; omega), ← pgsC, show (pgC q).length = 4 from rfl, show (i + 1) * 4 + j - 4 = i * 4 + j by omega]
    exact pgsC_at ps i p (by simpa using h) j hj
/-- A reader in block g: its pages in the row v, its source's blocks Fs. -/
structure RdG {B : Nat} (S : Src B) (n g : Nat) (v : Value) (Fs : Nat → Prop) (er : Int) (ps : List (Tl × ByteArray)) (A : List Tl) (w : World) : Prop where
  blk : Pk.Blk w g [S.sv, .int .i64 (n : Int), v, .int .i64 er] 93
  row : Pk.Row w 151 4 v ps.length (pgsC ps)
  src : S.I w Fs A
  gF : ¬ Fs g
  vF : ∀ k, v.ownBlock = some k → ¬ Fs k
  gB : B ≤ g
  vB : ∀ k, v.ownBlock = some k → B ≤ k
def RF (g : Nat) (v : Value) (Fs : Nat → Prop) (k : Nat) : Prop := k = g ∨ v.ownBlock = some k ∨ Fs k
section
variable {B : Nat} {S : Src B} {n g : Nat} {v : Value} {Fs : Nat → Prop} {er : Int} {ps : List (Tl × ByteArray)} {A : List Tl} {w w' : World}
theorem RdG.vg (h : RdG S n g v Fs er ps A w) : v.ownBlock ≠ some g := Pk.Row.apart h.row h.blk (by decide)
theorem RdG.lt (h : RdG S n g v Fs er ps A w) (k : Nat) (hk : RF g v Fs k) : B ≤ k ∧ k < w.heap.size := by
  rcases hk with rfl | hk | hk
  · exact ⟨h.gB, h.blk.lt⟩
  · exact ⟨h.vB k hk, h.row.lt k hk⟩
  · exact S.lt h.src k hk
theorem RdG.on (h : RdG S n g v Fs er ps A w) {T : Nat → Prop} (hc : Pk.Chg T w w') (hT : ∀ k, RF g v Fs k → ¬ T k) (hTB : ∀ k, T k → B ≤ k) : RdG S n g v Fs er ps A w' :=
  ⟨hc.blk h.blk (hT g (.inl rfl)), h.row.chg hc fun k hk => hT k (.inr (.inl hk)), S.chg h.src hc (fun k hk => hT k (.inr (.inr hk))) hTB, h.gF, h.vF, h.gB, h.vB⟩
theorem RdG.here (h : RdG S n g v Fs er ps A w) (hb : Below w.heap.size w w') : RdG S n g v Fs er ps A w' :=
  h.on (Pk.Chg.of_below hb) (fun k hk => by have := (h.lt k hk).2; omega) fun k hk => Nat.le_trans (S.sz h.src) hk
/-- The source was asked. -/
theorem RdG.asked (h : RdG S n g v Fs er ps A w) {F' : Nat → Prop} {A' : List Tl} (hi : S.I w' F' A') (hc : Pk.Chg Fs w w') (hf : ∀ k, F' k → Fs k ∨ w.heap.size ≤ k) : RdG S n g v F' er ps A' w' :=
  ⟨hc.blk h.blk h.gF, h.row.chg hc fun k hk => h.vF k hk, hi, fun hg => by
      rcases hf g hg with h1 | h1
      · exact h.gF h1
      · have := h.blk.lt; omega, fun k hk hF => by
      rcases hf k hF with h1 | h1
      · exact h.vF k hk h1
      · have := h.row.lt k hk; omega, h.gB, h.vB⟩
end
theorem info_pg : (Tryd.prog.info? 151).map (fun i => (i.zero, i.size, i.bytes)) = some (some (.agg #[.int .i64 0, .int .i64 0, .int .i64 0, .string ⟨#[]⟩]), 4, 40) := by kernel_rfl
end Go.Proofs.YtlkopllpadhnlaaDoor

namespace Go.Proofs.YtlkopllpadhnlaaDoor
open Go Go.RowKit

section
variable {B : Nat} (S : Src B)
def pgs (A : List Tl) : List (Tl × ByteArray) := A.map fun t => (t, (S.ans t).1)
/-- The error that came up: the last one's. -/
def errA (A : List Tl) : Int := match A.getLast? with
  | none => 0
  | some t => (S.ans t).2
theorem errA_snoc (A : List Tl) (t : Tl) : errA S (A ++ [t]) = (S.ans t).2 := by unfold errA; simp
theorem pgs_snoc (A : List Tl) (t : Tl) : pgs S (A ++ [t]) = pgs S A ++ [(t, (S.ans t).1)] := by unfold pgs; simp
theorem pgs_len (A : List Tl) : (pgs S A).length = A.length := by unfold pgs; simp
end
/-- A reader that has asked for the tiles A, of a source that had been asked for A0. -/
structure RdAt {B : Nat} (S : Src B) (n g : Nat) (A0 A : List Tl) (F : Nat → Prop) (w : World) : Prop where
  ex : ∃ v Fs, RdG S n g v Fs (errA S A) (pgs S A) (A0 ++ A) w ∧ ∀ k, F k ↔ RF g v Fs k
  tiles : ∀ t ∈ A, TlN n t
  oks : ∀ A1 t, A = A1 ++ [t] → ∀ u ∈ A1, (S.ans u).2 = 0
  len : A0.length + A.length ≤ 90000
theorem RdAt.good {B : Nat} {S : Src B} {n g : Nat} {A0 A : List Tl} {F : Nat → Prop} {w : World} (h : RdAt S n g A0 A F w) (he : errA S A = 0) : ∀ u ∈ A, (S.ans u).2 = 0 := by
  intro u hu
  rcases List.eq_nil_or_concat A with h0 | ⟨A1, t, h1⟩
  · subst h0; cases hu
  · have h1 : A = A1 ++ [t] := by simpa using h1
    subst h1
    rw [errA_snoc] at he
    rcases List.mem_append.1 hu with h2 | h2
    · exact h.oks A1 t rfl u h2
    · rw [List.mem_singleton.1 h2]; exact he
theorem RdAt.here {B : Nat} {S : Src B} {n g : Nat} {A0 A : List Tl} {F : Nat → Prop} {w w' : World} (h : RdAt S n g A0 A F w) (hb : Below w.heap.size w w') : RdAt S n g A0 A F w' := by
  obtain ⟨v, Fs, hG, hF⟩ := h.ex
  exact ⟨⟨v, Fs, hG.here hb, hF⟩, h.tiles, h.oks, h.len⟩
theorem RdAt.lt {B : Nat} {S : Src B} {n g : Nat} {A0 A : List Tl} {F : Nat → Prop} {w : World} (h : RdAt S n g A0 A F w) (k : Nat) (hk : F k) : B ≤ k ∧ k < w.heap.size := by
  obtain ⟨v, Fs, hG, hF⟩ := h.ex
  exact hG.lt k ((hF k).1 hk)
/-- What a call of a reader leaves. -/
structure RN {B : Nat} (S : Src B) (n g : Nat) (A0 A : List Tl) (F : Nat → Prop) (w : World) (d : Nat) (A' : List Tl) (F' : Nat → Prop) (w' : World) : Prop where
  at_ : RdAt S n g A0 A' F' w'
  chg : Pk.Chg F w w'
  foot : ∀ k, F' k → F k ∨ w.heap.size ≤ k
  pre : A <+: A'
  len : A'.length ≤ A.length + d
theorem RN.trans {B : Nat} {S : Src B} {n g : Nat} {A0 A A1 A2 : List Tl} {F F1 F2 : Nat → Prop} {w w1 w2 : World} {d1 d2 : Nat} (h : RN S n g A0 A F w d1 A1 F1 w1) (k : RN S n g A0 A1 F1 w1 d2 A2 F2 w2) : RN S n g A0 A F w (d1 + d2) A2 F2 w2 :=
  ⟨k.at_, h.chg.trans k.chg fun i hi hT => by
      rcases h.foot i hT with h1 | h1
      · exact h1
      · omega, fun i hi => by
      rcases k.foot i hi with h1 | h1
      · exact h.foot i h1
      · exact .inr (Nat.le_trans h.chg.size h1), h.pre.trans k.pre, by have := h.len; have := k.len; omega⟩
theorem RN.more {B : Nat} {S : Src B} {n g : Nat} {A0 A A' : List Tl} {F F' : Nat → Prop} {w w' : World} {d e : Nat} (h : RN S n g A0 A F w d A' F' w') (he : d ≤ e) : RN S n g A0 A F w e A' F' w' := ⟨h.at_, h.chg, h.foot, h.pre, by have := h.len; omega⟩
theorem RN.below {B : Nat} {S : Src B} {n g : Nat} {A0 A A' : List Tl} {F F' : Nat → Prop} {w w' : World} {d : Nat} (h : RN S n g A0 A F w d A' F' w') (ha : RdAt S n g A0 A F w) (hB : B ≤ w.heap.size) : Below B w w' := h.chg.below hB fun i hi => (ha.lt i hi).1
/-- Beside a reader: what is told of an earlier world. -/
theorem RN.of {B : Nat} {S : Src B} {n g : Nat} {A0 A A' : List Tl} {F F' : Nat → Prop} {w w1 w' : World} {d : Nat} (hb : Below w.heap.size w w1) (h : RN S n g A0 A F w1 d A' F' w') : RN S n g A0 A F w d A' F' w' :=
  ⟨h.at_, ((Pk.Chg.of_below hb).mono (T := F) fun i hi e => by omega).trans h.chg fun i hi e => e, fun k hk => (h.foot k hk).imp id fun h2 => Nat.le_trans hb.size h2, h.pre, h.len⟩
theorem RN.still {B : Nat} {S : Src B} {n g : Nat} {A0 A : List Tl} {F : Nat → Prop} {w w' : World} (ha : RdAt S n g A0 A F w) (hb : Below w.heap.size w w') : RN S n g A0 A F w 0 A F w' :=
  ⟨ha.here hb, (Pk.Chg.of_below hb).mono fun i hi e => by omega, fun k hk => .inl hk, List.prefix_refl _, by omega⟩
/-- What stays whatever a reader does: a block that isn't its own. -/
theorem RN.blk {B : Nat} {S : Src B} {n g : Nat} {A0 A A' : List Tl} {F F' : Nat → Prop} {w w' : World} {d : Nat} (h : RN S n g A0 A F w d A' F' w') {b : Nat} {cs : List Value} {t : TypeId} (hb : Pk.Blk w b cs t) (hF : ¬ F b) : Pk.Blk w' b cs t := h.chg.blk hb hF
theorem pgs_mem {B : Nat} {S : Src B} {A : List Tl} {i : Nat} {t : Tl} {x : ByteArray} (h : (pgs S A)[i]? = some (t, x)) : t ∈ A ∧ x = (S.ans t).1 := by
  unfold pgs at h
  rw [List.getElem?_map] at h
  cases ha : A[i]? with
  | none => rw [ha] at h; cases h
  | some u =>
    rw [ha] at h
    injection h with h
    injection h with h1 h2
    subst h1
    exact ⟨List.mem_of_getElem? ha, h2.symm⟩
theorem tl_ne {p t : Tl} (h : p ≠ t) : ¬ (p.L : Int) = (t.L : Int) ∨ (p.L = t.L ∧ ¬ (p.I : Int) = (t.I : Int)) ∨ (p.L = t.L ∧ p.I = t.I ∧ ¬ (p.W : Int) = (t.W : Int)) := by
  by_cases h1 : p.L = t.L
  · by_cases h2 : p.I = t.I
    · exact .inr (.inr ⟨h1, h2, fun h3 => h (by cases p; cases t; simp only at h1 h2 h3; congr; omega)⟩)
    · exact .inr (.inl ⟨h1, by omega⟩)
  · exact .inl (by omega)
/-- The tile's box. -/
def TBx (b : Nat) (t : Tl) (w : World) : Prop := Pk.Blk w b [.int .i64 (t.L : Int), .int .i64 (t.I : Int), .int .i64 (t.W : Int)] 23
theorem TBx.on {b : Nat} {t : Tl} {w w' : World} (h : TBx b t w) (hb : Below w.heap.size w w') : TBx b t w' := (hb.block _ (Pk.Blk.lt h)).trans h
theorem TBx.cells {b : Nat} {t : Tl} {w : World} (h : TBx b t w) : w.cell? ⟨b, 0, none⟩ = some (.int .i64 (t.L : Int)) ∧ w.cell? ⟨b, 1, none⟩ = some (.int .i64 (t.I : Int)) ∧ w.cell? ⟨b, 2, none⟩ = some (.int .i64 (t.W : Int)) := ⟨Pk.Blk.cell h 0, Pk.Blk.cell h 1, Pk.Blk.cell h 2⟩
def TBc (b : Nat) (t : Tl) (w : World) : Prop := w.cell? ⟨b, 0, none⟩ = some (.int .i64 (t.L : Int)) ∧ w.cell? ⟨b, 1, none⟩ = some (.int .i64 (t.I : Int)) ∧ w.cell? ⟨b, 2, none⟩ = some (.int .i64 (t.W : Int))
/-- On the way: the reader as it stands, the tile's box, what has changed since the call began. -/
structure MT {B : Nat} (S : Src B) (n g : Nat) (F0 : Nat → Prop) (t : Tl) (w0 : World) (v : Value) (Fs : Nat → Prop) (er : Int) (ps : List (Tl × ByteArray)) (A : List Tl) (w : World) : Prop where
  at_ : RdG S n g v Fs er ps A w
  bx : TBx w0.heap.size t w
  chg : Pk.Chg F0 w0 w
  foot : ∀ k, RF g v Fs k → F0 k ∨ w0.heap.size ≤ k ∧ k ≠ w0.heap.size
  gF0 : F0 g
  lt0 : ∀ k, F0 k → k < w0.heap.size
section
variable {B : Nat} {S : Src B} {n g : Nat} {F0 : Nat → Prop} {t : Tl} {w0 : World} {v : Value} {Fs : Nat → Prop} {er : Int} {ps : List (Tl × ByteArray)} {A : List Tl} {w w' : World}
theorem MT.here (h : MT S n g F0 t w0 v Fs er ps A w) (hb : Below w.heap.size w w') : MT S n g F0 t w0 v Fs er ps A w' :=
  ⟨h.at_.here hb, h.bx.on hb, h.chg.trans (Pk.Chg.of_below hb) fun i hi e => by have := h.chg.size; omega, h.foot, h.gF0, h.lt0⟩
/-- No block of the reader's is the box. -/
theorem MT.nbox (h : MT S n g F0 t w0 v Fs er ps A w) (k : Nat) (hk : RF g v Fs k) : k ≠ w0.heap.size := by
  rcases h.foot k hk with h1 | h1
  · have := h.lt0 k h1; omega
  · exact h1.2
theorem MT.sz (h : MT S n g F0 t w0 v Fs er ps A w) : w0.heap.size < w.heap.size := Pk.Blk.lt h.bx
theorem MT.asked (h : MT S n g F0 t w0 v Fs er ps A w) {F' : Nat → Prop} {A' : List Tl} (hi : S.I w' F' A') (hc : Pk.Chg Fs w w') (hf : ∀ k, F' k → Fs k ∨ w.heap.size ≤ k) : MT S n g F0 t w0 v F' er ps A' w' :=
  ⟨h.at_.asked hi hc hf, hc.blk h.bx fun e => h.nbox _ (.inr (.inr e)) rfl, h.chg.trans hc fun i hi e => by
      rcases h.foot i (.inr (.inr e)) with h1 | h1
      · exact h1
      · omega, fun k hk => by
      rcases hk with h1 | h1 | h1
      · exact h.foot k (.inl h1)
      · exact h.foot k (.inr (.inl h1))
      · rcases hf k h1 with h2 | h2
        · exact h.foot k (.inr (.inr h2))
        · have := h.sz; exact .inr ⟨by omega, by omega⟩, h.gF0, h.lt0⟩
/-- The row grew: ahead of its store. -/
theorem MT.push (h : MT S n g F0 t w0 v Fs er ps A w) {p : Tl × ByteArray} {v' : Value} (hp : Pk.PushedRow w 151 4 v (ps.length + 1) (pgsC ps ++ pgC p) v' w') :
    Pk.Blk w' g [S.sv, .int .i64 (n : Int), v, .int .i64 er] 93 ∧ TBx w0.heap.size t w' ∧ MT S n g F0 t w0 v' Fs er (ps ++ [p]) A (w'.setCell ⟨g, 2, none⟩ v') := by
  have hb : Pk.Blk w' g [S.sv, .int .i64 (n : Int), v, .int .i64 er] 93 := hp.chg.blk h.at_.blk fun e => h.at_.vg e
  have hx : TBx w0.heap.size t w' := hp.chg.blk h.bx fun e => h.nbox _ (.inr (.inl e)) rfl
  have hvg : v'.ownBlock ≠ some g := Pk.Row.apart hp.row hb (by decide)
  have hs : Pk.Chg (fun k => k = g) w' (w'.setCell ⟨g, 2, none⟩ v') := (Pk.Chg.refl (fun k => k = g) w').setCell (p := ⟨g, 2, none⟩) rfl v'
  have hrow : Pk.Row w' 151 4 v' (ps ++ [p]).length (pgsC (ps ++ [p])) := by
    have := hp.row
    rw [List.length_append]
    unfold pgsC at this ⊢
    rw [List.flatMap_append, List.flatMap_cons, List.flatMap_nil, List.append_nil]
    exact this
  have hlt := fun k hk => (S.lt h.at_.src k hk).2
  have hgl := h.at_.blk.lt
  have hgb := h.lt0 g h.gF0
  have hsz := h.sz
  have hown : ∀ k, v'.ownBlock = some k → v.ownBlock = some k ∨ w.heap.size ≤ k := hp.place
  have hc1 : Pk.Chg F0 w0 w' := h.chg.trans hp.chg fun i hi e => by
    rcases h.foot i (.inr (.inl e)) with h1 | h1
    · exact h1
    · omega
  refine ⟨hb, hx, ⟨hb.setCell 2 v', hrow.chg hs fun k hk e => hvg (by rw [hk, e]), S.chg (S.chg h.at_.src hp.chg (fun k hk e => h.at_.vF k e hk) fun k e => h.at_.vB k e) hs (fun k hk e => h.at_.gF (e ▸ hk)) (fun k e => e ▸ h.at_.gB), h.at_.gF, fun k hk hF => ?_, h.at_.gB, fun k hk => ?_⟩, hs.blk hx (fun e => by omega), hc1.trans hs fun i hi e => by rw [e]; exact h.gF0, fun k hk => ?_, h.gF0, h.lt0⟩
  · rcases hown k hk with h1 | h1
    · exact h.at_.vF k h1 hF
    · have := hlt k hF; omega
  · rcases hown k hk with h1 | h1
    · exact h.at_.vB k h1
    · have := h.at_.gB; omega
  · rcases hk with h1 | h1 | h1
    · exact h.foot k (.inl h1)
    · rcases hown k h1 with h2 | h2
      · exact h.foot k (.inr (.inl h2))
      · exact .inr ⟨by omega, by omega⟩
    · exact h.foot k (.inr (.inr h1))
theorem MT.err (h : MT S n g F0 t w0 v Fs er ps A w) (e' : Int) : MT S n g F0 t w0 v Fs e' ps A (w.setCell ⟨g, 3, none⟩ (.int .i64 e')) := by
  have hs : Pk.Chg (fun k => k = g) w (w.setCell ⟨g, 3, none⟩ (.int .i64 e')) := (Pk.Chg.refl (fun k => k = g) w).setCell (p := ⟨g, 3, none⟩) rfl _
  have hgb := h.lt0 g h.gF0
  exact ⟨⟨h.at_.blk.setCell 3 _, h.at_.row.chg hs fun k hk e => h.at_.vg (by rw [hk, e]), S.chg h.at_.src hs (fun k hk e => h.at_.gF (e ▸ hk)) (fun k e => e ▸ h.at_.gB), h.at_.gF, h.at_.vF, h.at_.gB, h.at_.vB⟩, hs.blk h.bx (fun e => by omega), h.chg.trans hs fun i hi e => by rw [e]; exact h.gF0, h.foot, h.gF0, h.lt0⟩
end
/-- What text reads of its own: where its source stands, its tile's box. -/
structure BaseT (g b : Nat) (sv x y z : Value) (w : World) : Prop where
  c0 : w.cell? ⟨g, 0, none⟩ = some sv
  bx : w.cell? ⟨b, 0, none⟩ = some x ∧ w.cell? ⟨b, 1, none⟩ = some y ∧ w.cell? ⟨b, 2, none⟩ = some z
/-- What text answers. -/
def TextIs {B : Nat} (S : Src B) (n g : Nat) (A0 A : List Tl) (F : Nat → Prop) (w : World) (t : Tl) (e : Ending) (w' : World) : Prop :=
  ∃ A' F' x, e = .returned (.string x) ∧ RN S n g A0 A F w 1 A' F' w' ∧ (errA S A' = 0 → t ∈ A' ∧ x = (S.ans t).1)
set_option maxHeartbeats 3200000 in
set_option maxRecDepth 100000 in
theorem text_any {B : Nat} (S : Src B) (n g : Nat) (A0 A : List Tl) (F : Nat → Prop) (t : Tl) (w : World) (h : RdAt S n g A0 A F w) (hL : Ld B w) (hB : B ≤ w.heap.size) (ht : TlN n t) (hl : A0.length + A.length ≤ 80000) :
    Calls Tryd.prog 79 #[.pointer (some ⟨g, 0, none⟩), tlv t] w (TextIs S n g A0 A F w t) := by
  have h0 := h
  obtain ⟨v, Fs, hG, hF⟩ := h.ex
  obtain ⟨a, c, rfl⟩ := hG.row.shape
  have hlen := pgs_len S A
  obtain ⟨m, hm⟩ : ∃ m, (pgs S A).length = m := ⟨_, rfl⟩
  have hwb := bel_alloc w (.cells #[.int .i64 (t.L : Int), .int .i64 (t.I : Int), .int .i64 (t.W : Int)] 23)
  have hbx := Box.mk (show TBx w.heap.size t (w.alloc (.cells #[.int .i64 (t.L : Int), .int .i64 (t.I : Int), .int .i64 (t.W : Int)] 23)) from Pk.Blk.new w _ _)
  have hG1 := hG.here hwb
  have c2 := hG1.blk.cell 2
  simp only [List.getElem?_cons_zero, List.getElem?_cons_succ] at c2
  rw [hm] at c2
  obtain ⟨W0, hW0⟩ : ∃ W0, w.alloc (.cells #[.int .i64 (t.L : Int), .int .i64 (t.I : Int), .int .i64 (t.W : Int)] 23) = W0 := ⟨_, rfl⟩
  rw [hW0] at hwb hbx
  have hA0 : Box (Below w.heap.size w W0 ∧ TBx w.heap.size t W0 ∧ ∀ j, j < 0 → ∀ p, (pgs S A)[j]? = some p → p.1 ≠ t) := ⟨hwb, hbx.out, fun j hj => by omega⟩
  replace hG := Box.mk hG
  replace h0 := Box.mk h0
  replace hW0 := Box.mk hW0
  replace hL := Box.mk hL
  replace hF := Box.mk hF
  replace ht := Box.mk ht
  replace hwb := Box.mk hwb
  clear h hbx hG1
  unfold tlv tv
  go_enter Tryd.func79, Tryd.ntmps79
  go_wp2_with fail
  rw [hW0.out]
  clear hW0 c2
  go_loopw [14] (fun q wr => ∃ i : Nat, i ≤ m ∧ q = .int .i64 (i : Int) ∧ Box (Below w.heap.size w wr ∧ TBx w.heap.size t wr ∧ ∀ j, j < i → ∀ p, (pgs S A)[j]? = some p → p.1 ≠ t)) (fun q _ => m - (intOf q).toNat)
  case atStart => exact ⟨0, by omega, rfl, hA0⟩
  case round =>
    clear hA0
    obtain ⟨i, hi, rfl, hA⟩ := hrel
    by_cases hlt : i < m
    · obtain ⟨p, hp⟩ : ∃ p, (pgs S A)[i]? = some p := ⟨_, List.getElem?_eq_getElem (by omega)⟩
      obtain ⟨gv, cv, e1, _⟩ := hG.out.row.some (by omega)
      cases e1
      have hGr := hG.out.here hA.out.1
      have k0 := hGr.row.cells (i * 4) (.int .i64 (p.1.L : Int)) (pgsC_at _ i p hp 0 (by decide))
      have k1 := hGr.row.cells (i * 4 + 1) (.int .i64 (p.1.I : Int)) (pgsC_at _ i p hp 1 (by decide))
      have k2 := hGr.row.cells (i * 4 + 2) (.int .i64 (p.1.W : Int)) (pgsC_at _ i p hp 2 (by decide))
      have k3 := hGr.row.cells (i * 4 + 3) (.string p.2) (pgsC_at _ i p hp 3 (by decide))
      obtain ⟨b0, b1, b2⟩ := hA.out.2.1.cells
      obtain ⟨q0, q1, q2⟩ := (hA.out.2.1.on (bel_alloc wr (.cells #[.int .i64 (p.1.L : Int), .int .i64 (p.1.I : Int), .int .i64 (p.1.W : Int), .string p.2] 151))).cells
      have hA2 := Box.mk (mono_bel hA.out.1 (bel_alloc wr (.cells #[.int .i64 (p.1.L : Int), .int .i64 (p.1.I : Int), .int .i64 (p.1.W : Int), .string p.2] 151)) (Nat.le_refl _))
      clear hGr
      have hii : (i : Int) < (m : Int) := by omega
      by_cases he : p.1 = t
      · obtain ⟨q, x⟩ := p
        obtain rfl : q = t := he
        simp only at k0 k1 k2 k3 q0 q1 q2 hA2
        have hm1 := Box.mk (pgs_mem hp)
        go_wp2_with fail
        go_ret
        exact ⟨A, F, x, rfl, (RN.still h0.out hA2.out).more (Nat.zero_le _), fun _ => hm1.out⟩
      · have hA3 : Box (Below w.heap.size w (wr.alloc (.cells #[.int .i64 (p.1.L : Int), .int .i64 (p.1.I : Int), .int .i64 (p.1.W : Int), .string p.2] 151)) ∧ TBx w.heap.size t (wr.alloc (.cells #[.int .i64 (p.1.L : Int), .int .i64 (p.1.I : Int), .int .i64 (p.1.W : Int), .string p.2] 151)) ∧ ∀ j, j < i + 1 → ∀ p, (pgs S A)[j]? = some p → p.1 ≠ t) :=
          ⟨hA2.out, hA.out.2.1.on (bel_alloc _ _), fun j hj r hr => by
            rcases Nat.lt_or_ge j i with h1 | h1
            · exact hA.out.2.2 j h1 r hr
            · obtain rfl : j = i := by omega
              rw [hp] at hr
              injection hr with hr
              rw [← hr]; exact he⟩
        have hne := tl_ne he
        clear hA hA2 hp he
        obtain ⟨⟨pl, pi, pw⟩, x⟩ := p
        simp only at k0 k1 k2 k3 q0 q1 q2 hA3 hne
        rcases hne with h1 | ⟨h1, h2⟩ | ⟨h1, h2, h3⟩
        · go_wp2_with fail
          exact ⟨⟨i + 1, by omega, by go_num, hA3⟩, by simp [intOf]; omega⟩
        · subst h1
          go_wp2_with fail
          exact ⟨⟨i + 1, by omega, by go_num, hA3⟩, by simp [intOf]; omega⟩
        · subst h1 h2
          go_wp2_with fail
          exact ⟨⟨i + 1, by omega, by go_num, hA3⟩, by simp [intOf]; omega⟩
    · obtain rfl : i = m := by omega
      have hii : ¬ (i : Int) < (i : Int) := by omega
      have hnot : t ∉ A := fun hm => by
        obtain ⟨j, hj⟩ := List.mem_iff_getElem?.1 hm
        have h1 : (pgs S A)[j]? = some (t, (S.ans t).1) := by unfold pgs; rw [List.getElem?_map, hj]; rfl
        have h2 : j < (pgs S A).length := by
          rcases Nat.lt_or_ge j (pgs S A).length with h | h
          · exact h
          · rw [List.getElem?_eq_none h] at h1; cases h1
        exact hA.out.2.2 j (by omega) _ h1 rfl
      have hwr := Box.mk hA.out.1
      have hbx := Box.mk hA.out.2.1
      have hGr := Box.mk (hG.out.here hwr.out)
      have kE := hGr.out.blk.cell 3
      simp only [List.getElem?_cons_zero, List.getElem?_cons_succ] at kE
      obtain ⟨E, hE⟩ : ∃ E, errA S A = E := ⟨_, rfl⟩
      have hi8 : i ≤ 80000 := by omega
      replace hm := Box.mk hm
      clear hA hi hlt hwb
      by_cases he : E = 0
      · rw [hE] at kE hGr
        subst he
        replace hE := Box.mk hE
        have hGw := Box.mk (fun w' (hb : Below wr.heap.size wr w') => hGr.out.here hb)
        have hMw : Box (∀ w', Below wr.heap.size wr w' → MT S n g F t w (.slice a (pgs S A).length c) Fs 0 (pgs S A) (A0 ++ A) w') := ⟨fun w' hb => ⟨hGr.out.here hb, hbx.out.on hb, ((Pk.Chg.of_below (mono_bel hwr.out hb (Nat.le_refl _))).mono fun i hi e => absurd hi (by omega)), fun k hk => .inl ((hF.out k).2 hk), (hF.out g).2 (.inl rfl), fun k hk => (h0.out.lt k hk).2⟩⟩
        have hBw := Box.mk (fun w' (hb : Below wr.heap.size wr w') => hbx.out.on hb)
        have hBs : Box (∀ w', Below wr.heap.size wr w' → BaseT g w.heap.size S.sv (.int .i64 (t.L : Int)) (.int .i64 (t.I : Int)) (.int .i64 (t.W : Int)) w') := ⟨fun w' hb => ⟨(hGw.out w' hb).blk.cell 0, (hBw.out w' hb).cells⟩⟩
        have hlen2 := Box.mk (show (A0 ++ A).length ≤ 100000 by rw [List.length_append]; omega)
        have hask := Box.mk (fun w' (hb : Below wr.heap.size wr w') => S.ask w' Fs (A0 ++ A) t (hL.out.here (mono_bel hwr.out hb (Nat.le_refl _)) hB) (Nat.le_trans hB (mono_bel hwr.out hb (Nat.le_refl _)).size) ht.out.1 hlen2.out (hGw.out w' hb).src)
        unfold tlv tv at hask
        obtain ⟨⟨x, er⟩, hXe⟩ : ∃ X, S.ans t = X := ⟨_, rfl⟩
        rw [hXe] at hask
        simp only at hask
        have hFs := Box.mk (S.lt hG.out.src)
        go_wp2_with fail
        refine region_steadyD (BaseT g w.heap.size S.sv (.int .i64 (t.L : Int)) (.int .i64 (t.I : Int)) (.int .i64 (t.W : Int))) (fun w' => Below wr.heap.size wr w') (fun w w' => w = w') rfl (dB wr) ?_
        refine anyS_calms [0, 1, 2, 3, 4] 6 rfl (fun _ => rfl) (st_eqD hBs.out) (by kernel_rfl) (by kernel_rfl) (by kernel_rfl) ?_
        simp [nth]
        try simp only [Act.put, List.setIfInBounds_toArray, List.set_cons_succ, List.set_cons_zero]
        repeat (go_big_quiet_step (first | exact fun _ => rfl | rfl))
        refine quiet_val rfl S.sv (fun w' hw' => by have h3 := hw'.c0; go_simp) ?_
        simp only [Act.put, List.setIfInBounds_toArray, List.set_cons_succ, List.set_cons_zero]
        repeat (go_big_quiet_step (first | exact fun _ => rfl | rfl))
        refine quiet_val rfl (.agg #[.int .i64 (t.L : Int), .int .i64 (t.I : Int), .int .i64 (t.W : Int)]) (fun w' hw' => by obtain ⟨h3, h4, h5⟩ := hw'.bx; go_simp) ?_
        simp only [Act.put, List.setIfInBounds_toArray, List.set_cons_succ, List.set_cons_zero]
        repeat (go_big_quiet_step (first | exact fun _ => rfl | rfl))
        refine wpQuiet_nil ?_
        refine anyS_forced 5 (by kernel_rfl) rfl rfl (fun wa hWa K hK => ?_)
        have hF1 := hask.out wa hWa
        have hGa := Box.mk (hGw.out wa hWa)
        have hba := Box.mk (hBw.out wa hWa)
        go_simp
        refine hF1.mono ?_
        rintro e wb ⟨rfl, F1, hi1, hc1, hf1⟩
        have hM1 := Box.mk (hMw.out wa hWa |>.asked hi1 hc1 hf1)
        refine hK _ _ (fun w' => w' = wb) (st_eqD fun w' e => e ▸ ⟨hM1.out.at_.blk.cell 0, hM1.out.bx.cells⟩) rfl ?_
        clear hK K hF1 hi1 hc1 hf1 hba hGa hWa hMw hask hBs hBw hGw hbx hGr hwr
        refine anyS_calms [6, 7, 8, 9, 10] 0 rfl (fun _ => rfl) (st_eqD fun w' e => e ▸ ⟨hM1.out.at_.blk.cell 0, hM1.out.bx.cells⟩) (by kernel_rfl) (by kernel_rfl) (by kernel_rfl) ?_
        simp [nth]
        try simp only [Act.put, List.setIfInBounds_toArray, List.set_cons_succ, List.set_cons_zero]
        repeat (go_big_quiet_step (first | exact fun _ => rfl | rfl))
        refine wpQuiet_nil ?_
        refine anyS_done (by kernel_rfl) (fun wc hC => ?_)
        subst hC
        have hMd := Box.mk (hM1.out.here (dB wc))
        replace hXe := Box.mk hXe
        clear hM1 kE hFs
        go_wp2_with fail
        obtain ⟨wd, hwd⟩ : ∃ wd, wc.drew = wd := ⟨_, rfl⟩
        rw [hwd] at hMd
        have d2 := hMd.out.at_.blk.cell 2
        simp only [List.getElem?_cons_zero, List.getElem?_cons_succ, hm.out] at d2
        refine region_steadyD (TBc w.heap.size t) (fun w' => w' = wd) (fun w w' => w = w') rfl hwd ?_
        refine anyS_calms [0, 1, 2, 3, 4, 6, 7, 8, 11] 9 rfl (fun _ => rfl) (st_eqD fun w' e => e ▸ hMd.out.bx.cells) (by kernel_rfl) (by kernel_rfl) (by kernel_rfl) ?_
        simp [nth]
        try simp only [Act.put, List.setIfInBounds_toArray, List.set_cons_succ, List.set_cons_zero]
        repeat (go_big_quiet_step (first | exact fun _ => rfl | rfl))
        refine quiet_val rfl (.agg #[.int .i64 (t.L : Int), .int .i64 (t.I : Int), .int .i64 (t.W : Int)]) (fun w' hw' => by obtain ⟨h3, h4, h5⟩ := hw'; go_simp) ?_
        simp only [Act.put, List.setIfInBounds_toArray, List.set_cons_succ, List.set_cons_zero]
        repeat (go_big_quiet_step (first | exact fun _ => rfl | rfl))
        refine wpQuiet_nil ?_
        obtain ⟨we, hwe⟩ : ∃ we, wd.alloc (.cells #[.int .i64 (t.L : Int), .int .i64 (t.I : Int), .int .i64 (t.W : Int), .string x] 151) = we := ⟨_, rfl⟩
        have hMe := hMd.out.here (bel_alloc wd (.cells #[.int .i64 (t.L : Int), .int .i64 (t.I : Int), .int .i64 (t.W : Int), .string x] 151))
        have hPe := Pk.Blk.new wd [.int .i64 (t.L : Int), .int .i64 (t.I : Int), .int .i64 (t.W : Int), .string x] 151
        rw [hwe] at hMe
        replace hPe : Pk.Blk we wd.heap.size [.int .i64 (t.L : Int), .int .i64 (t.I : Int), .int .i64 (t.W : Int), .string x] 151 := by rw [← hwe]; exact hPe
        have e2 := hMe.at_.blk.cell 2
        simp only [List.getElem?_cons_zero, List.getElem?_cons_succ, hm.out] at e2
        replace hMe := Box.mk hMe
        replace hPe := Box.mk hPe
        refine anyS_race2 (C2 := fun w' => w' = we) 9 5 (.slice (some ⟨wd.heap.size, 0, none⟩) 1 1) (.slice a i c) (by kernel_rfl) (by kernel_rfl) (by kernel_rfl) (by decide) rfl rfl rfl rfl rfl rfl rfl (st_eqD fun w' e => e ▸ hMd.out.bx.cells) (st_eqD fun w' e => e ▸ hMe.out.bx.cells)
          (fun w1 h1 K hK => ?_) (fun w1 h1 K hK => ?_) (fun w1 h1 K hK => ?_) (fun w1 h1 K hK => ?_) ?_
        · subst h1; go_simp; exact hK _ rfl
        · subst h1; go_simp; exact hK
        · subst h1; go_simp; exact hK
        · subst h1; go_simp; exact hK _ rfl
        clear d2 e2 hMd
        refine anyS_forced 10 (by kernel_rfl) rfl rfl (fun wf hWf K hK => ?_)
        subst hWf
        obtain ⟨i0, hi0, hz0, hz1, hz2⟩ := info_parts info_pg
        have hrow := hMe.out.at_.row
        rw [hm.out] at hrow
        refine Pk.wp_pushR (.tmp 44) (.tmp 48) 91 151 rfl i0 (.agg #[.int .i64 0, .int .i64 0, .int .i64 0, .string ⟨#[]⟩]) 4 40 Tryd.underlying91 hi0 hz0 hz1 hz2 rfl (by decide) _ i (pgsC (pgs S A)) rfl hrow ⟨wd.heap.size, 0, none⟩ 1 1 (pgC (t, x)) rfl rfl (fun j u hj => ?_) (fun u hu => ?_) (by unfold maxLen; omega) (by omega) ?_
        · have hadd : (⟨wd.heap.size, 0, none⟩ : Addr).add j = ⟨wd.heap.size, j, none⟩ := by unfold Addr.add; split <;> simp_all
          rw [hadd, hPe.out.cell j]; exact hj
        · simp only [pgC, List.mem_cons, List.not_mem_nil, or_false] at hu
          rcases hu with rfl | rfl | rfl | rfl <;> rfl
        intro v' w5 hp5
        have hp6 : Pk.PushedRow wf 151 4 (.slice a (pgs S A).length c) ((pgs S A).length + 1) (pgsC (pgs S A) ++ pgC (t, x)) v' w5 := by rw [hm.out]; exact hp5
        obtain ⟨hb6, hx6, hM6⟩ := hMe.out.push hp6
        refine hK _ _ (fun w' => w' = w5) (st_eqD fun w' e => e ▸ TBx.cells hx6) rfl ?_
        clear hK K hp5 hp6 hMe hPe hrow
        have c2 := hb6.cell 2
        have f2 := hb6.free 2
        simp only [List.getElem?_cons_zero, List.getElem?_cons_succ, hm.out] at c2
        replace hM6 := Box.mk hM6
        replace hx6 := Box.mk hx6
        clear hb6
        refine anyS_calms [12, 13] 4 rfl (fun _ => rfl) (st_eqD fun w' e => e ▸ TBx.cells hx6.out) (by kernel_rfl) (by kernel_rfl) (by kernel_rfl) ?_
        simp [nth]
        try simp only [Act.put, List.setIfInBounds_toArray, List.set_cons_succ, List.set_cons_zero]
        repeat (go_big_quiet_step (first | exact fun _ => rfl | rfl))
        refine wpQuiet_nil ?_
        refine anyS_forced 14 (by kernel_rfl) rfl rfl (fun w6 hW6 K hK => ?_)
        subst hW6
        obtain ⟨va, vc, rfl⟩ := hM6.out.at_.row.shape
        obtain ⟨Lq, hLq⟩ : ∃ q, (pgs S A ++ [(t, x)]).length = q := ⟨_, rfl⟩
        rw [hLq] at hM6 ⊢
        obtain ⟨w7, hw7⟩ : ∃ w7, w6.setCell ⟨g, 2, none⟩ (.slice va Lq vc) = w7 := ⟨_, rfl⟩
        rw [hw7] at hM6
        clear hLq
        go_simp
        refine hK _ _ (fun w' => w' = w7) (st_eqD fun w' e => e ▸ TBx.cells hM6.out.bx) rfl ?_
        clear hK K c2 f2 hx6 hw7
        refine anyS_calms [15, 16] 1 rfl (fun _ => rfl) (st_eqD fun w' e => e ▸ TBx.cells hM6.out.bx) (by kernel_rfl) (by kernel_rfl) (by kernel_rfl) ?_
        simp [nth]
        try simp only [Act.put, List.setIfInBounds_toArray, List.set_cons_succ, List.set_cons_zero]
        repeat (go_big_quiet_step (first | exact fun _ => rfl | rfl))
        refine wpQuiet_nil ?_
        refine anyS_last 17 (by kernel_rfl) rfl rfl (by kernel_rfl) (by kernel_rfl) (fun w8 hW8 K hK => ?_)
        subst hW8
        have c3 := hM6.out.at_.blk.cell 3
        have f3 := hM6.out.at_.blk.free 3
        simp only [List.getElem?_cons_zero, List.getElem?_cons_succ] at c3
        have hM8 := Box.mk (hM6.out.err er)
        obtain ⟨w9, hw9⟩ : ∃ w9, w8.setCell ⟨g, 3, none⟩ (.int .i64 er) = w9 := ⟨_, rfl⟩
        rw [hw9] at hM8
        go_simp
        refine hK _ _ ?_
        clear hK K c3 f3 hM6 hw9
        go_wp2_with fail
        go_ret
        refine ⟨A ++ [t], RF g (.slice va Lq vc) F1, x, rfl, ⟨⟨⟨_, F1, ?_, fun k => Iff.rfl⟩, fun u hu => ?_, fun A1 u e q hq => ?_, by rw [List.length_append]; simp; omega⟩, hM8.out.chg, fun k hk => (hM8.out.foot k hk).imp id fun h => h.1, List.prefix_append _ _, by simp⟩, fun _ => ⟨by simp, by rw [hXe.out]⟩⟩
        · rw [errA_snoc, pgs_snoc, hXe.out, ← List.append_assoc]
          exact hM8.out.at_
        · rcases List.mem_append.1 hu with h1 | h1
          · exact h0.out.tiles u h1
          · rw [List.mem_singleton.1 h1]; exact ht.out
        · have h1 := List.append_inj' e rfl
          rw [← h1.1] at hq
          exact h0.out.good hE.out q hq
      · rw [hE] at kE
        have heb : (E != 0) = true := by simpa using he
        replace hE := Box.mk hE
        replace he := Box.mk he
        go_wp2_with fail
        go_ret
        exact ⟨A, F, _, rfl, (RN.still h0.out hwr.out).more (Nat.zero_le _), fun h => absurd (hE.out.symm.trans h) he.out⟩
end Go.Proofs.YtlkopllpadhnlaaDoor
