/- What stands in the program's memory (three tables); decimal texts; a tile's path, of both; math/bits.TrailingZeros. | Paths of tiles, on lists: decimal digits read back; what the document reads out of a text. | The document's behind, digits. | The document's Parse. | How many nodes, how wide a tile; the law's Leaves. -/
import Derived.Shelf.Spec.TrailingZeros
import Derived.Lib.ItoaLen
import Derived.Test.YtlkopllpadhnlaaDoorMTe
import Derived.Test.YtlkopllpadhnlaaDoorTiL
namespace Go.Proofs.YtlkopllpadhnlaaDoor
open Go Go.RowKit

/-- The library's table of bits, as its initialiser lays it. -/
def TIs (w : World) : Prop := TabAt 6 Lib.deBruijn64tab w
theorem TIs.lt {w : World} (h : TIs w) : 6 < w.heap.size := block_lt_of_cell (h 0 (by decide))
theorem TIs.below {B : Nat} {w w' : World} (h : TIs w) (hb : Below B w w') (hB : 6 < B) : TIs w' := fun i hi => by
  rw [hb.cell (p := ⟨6, i, none⟩) hB]; exact h i hi
set_option maxHeartbeats 800000 in
set_option maxRecDepth 100000 in
theorem tz64_any (x : Nat) (hx0 : x ≠ 0) (hx : x < 18446744073709551616) (w : World) (hT : TIs w) :
    Calls Tryd.prog 102 #[.int .u64 (x : Int)] w fun e w' => e = .returned (.int .i64 (Lib.ctz 64 x : Int)) ∧ w = w' := by
  obtain ⟨hlow, hk⟩ := Lib.lowest_bit 64 x hx0 hx
  obtain ⟨hi, htab⟩ := Lib.deBruijn64_at _ hk
  have hcell := hT _ hi
  rw [htab] at hcell
  have key := tz64_key x _ hx hx0 hlow
  obtain ⟨idx, hidx⟩ : ∃ i, 2 ^ Lib.ctz 64 x * 285870213051353865 % 18446744073709551616 / 288230376151711744 = i := ⟨_, rfl⟩
  rw [hidx] at key hcell hi
  obtain ⟨k, hkk⟩ : ∃ k, Lib.ctz 64 x = k := ⟨_, rfl⟩
  rw [hkk] at hk hcell ⊢
  have hne : ((x : Int) == 0) = false := by simp; omega
  clear hlow htab hidx hkk hT
  go_enter Tryd.func102, Tryd.ntmps102
  go_wp2_with (simp only [key])
  go_returns
  exact ⟨rfl, rfl⟩
theorem tz_any (x : Nat) (hx0 : x ≠ 0) (hx : x < 18446744073709551616) (w : World) (hT : TIs w) :
    Calls Tryd.prog 78 #[.int .u64 (x : Int)] w fun e w' => e = .returned (.int .i64 (Lib.ctz 64 x : Int)) ∧ w = w' := by
  have h1 := tz64_any x hx0 hx w hT
  go_enter Tryd.func78, Tryd.ntmps78
  go_wp2_with fail
  refine h1.mono ?_
  rintro e w1 ⟨rfl, rfl⟩
  go_wp2_with fail
  go_returns
  exact ⟨rfl, rfl⟩
/-- What stands in memory below B, whatever comes. -/
structure Ld (B : Nat) (w : World) : Prop where
  kis : KIs w
  tis : TIs w
  pis : ∀ w', Below B w w' → Lib.TabIs Tryd.prog w' "internal/strconv.uint64pow10" .u64 Lib.pow10Tab
  g1 : 4 < B
  g2 : 6 < B
theorem Ld.below {B : Nat} {w w' : World} (h : Ld B w) (hb : Below B w w') : Ld B w' :=
  ⟨h.kis.below hb h.g1, h.tis.below hb h.g2, fun w2 hb2 => h.pis w2 (hb.trans hb2), h.g1, h.g2⟩
theorem Ld.here {B : Nat} {w w' : World} (h : Ld B w) (hb : Below w.heap.size w w') (hB : B ≤ w.heap.size) : Ld B w' := h.below (hb.mono hB)
/-- A number's decimal digits. -/
def txN (n : Int) : ByteArray := ⟨(Lib.itoa n).toArray⟩
theorem bel_grow (w : World) (k : Nat) (os : Array Obj) : Below w.heap.size w (Sort.grow (w.drewN k) os) :=
  ⟨rfl, rfl, rfl, by simp [Sort.grow], fun j hj => by simp [Sort.grow, Array.getElem?_append, hj]⟩
theorem itoa_any (n : Int) (B : Nat) (w : World) (hL : Ld B w) (h0 : -9223372036854775808 ≤ n) (h1 : n ≤ 9223372036854775807) :
    Calls Tryd.prog 29 #[.int .i64 n] w fun e w' => e = .returned (.string (txN n)) ∧ Below w.heap.size w w' :=
  (Tryd.strconv_Itoa n h0 h1 w (hL.pis w (Below.refl _ _))).mono fun e w' => by
    rintro ⟨rfl, k, os, rfl⟩
    exact ⟨rfl, bel_grow w k os⟩
theorem txN_size (n : Int) (h0 : 0 ≤ n) (h1 : n ≤ 9223372036854775807) : (txN n).size ≤ 21 := Lib.itoa_length_le n (by omega) h1
/-- Has a tile a path? -/
def okT (L I W : Int) : Bool := decide (0 ≤ L) && decide (L ≤ 30) && decide (0 ≤ I) && decide (I ≤ 1099511627776) && decide (1 ≤ W) && decide (W ≤ 4)
theorem okT_iff {L I W : Int} : okT L I W = true ↔ 0 ≤ L ∧ L ≤ 30 ∧ 0 ≤ I ∧ I ≤ 1099511627776 ∧ 1 ≤ W ∧ W ≤ 4 := by unfold okT; simp [and_assoc]
def sTile : ByteArray := ⟨#[116, 105, 108, 101, 47]⟩
def sBar : ByteArray := ⟨#[47]⟩
def sPart : ByteArray := ⟨#[46, 112, 47]⟩
def pathT (L I W : Int) : ByteArray := if okT L I W = true then (if W < 4 then sTile ++ txN L ++ sBar ++ txN I ++ (sPart ++ txN W) else sTile ++ txN L ++ sBar ++ txN I) else ByteArray.empty
def tv (L I W : Int) : Value := .agg #[.int .i64 L, .int .i64 I, .int .i64 W]
set_option maxHeartbeats 800000 in
set_option maxRecDepth 100000 in
theorem good_any (L I W : Int) (w : World) :
    Calls Tryd.prog 28 #[tv L I W] w fun e w' => e = .returned (.bool (okT L I W)) ∧ Below w.heap.size w w' := by
  unfold tv okT
  have hb := Box.mk (bel_alloc w (.cells #[.int .i64 L, .int .i64 I, .int .i64 W] 23))
  go_enter Tryd.func28, Tryd.ntmps28
  go_wp2_with fail
  all_goals (go_ret; refine ⟨?_, hb.out⟩; simp [*] <;> omega)
set_option maxHeartbeats 800000 in
set_option maxRecDepth 100000 in
theorem fit_any (L I W : Int) (w : World) :
    Calls Tryd.prog 30 #[tv L I W] w fun e w' => e = .returned (.bool (okT L I W)) ∧ Below w.heap.size w w' := by
  unfold tv okT
  have hb := Box.mk (bel_alloc w (.cells #[.int .i64 L, .int .i64 I, .int .i64 W] 26))
  go_enter Tryd.func30, Tryd.ntmps30
  go_wp2_with fail
  all_goals (go_ret; refine ⟨?_, hb.out⟩; simp [*] <;> omega)
/-- A box of three cells that stays. -/
def Box3 (b : Nat) (x y z : Value) (w : World) : Prop := ∀ w', Below w.heap.size w w' → w'.cell? ⟨b, 0, none⟩ = some x ∧ w'.cell? ⟨b, 1, none⟩ = some y ∧ w'.cell? ⟨b, 2, none⟩ = some z
theorem Box3.of {b : Nat} {x y z : Value} {t : TypeId} {w w1 : World} (hb : w.heap.size = b) (h : Below (w.alloc (.cells #[x, y, z] t)).heap.size (w.alloc (.cells #[x, y, z] t)) w1) : Box3 b x y z w1 := fun w' h' => by
  subst hb
  have k : Pk.Blk w' w.heap.size [x, y, z] t := ((h.trans (h'.mono h.size)).block _ (by simp)).trans (Pk.Blk.new w _ _)
  exact ⟨k.cell 0, k.cell 1, k.cell 2⟩
theorem Box3.now {b : Nat} {x y z : Value} {w : World} (h : Box3 b x y z w) : w.cell? ⟨b, 0, none⟩ = some x ∧ w.cell? ⟨b, 1, none⟩ = some y ∧ w.cell? ⟨b, 2, none⟩ = some z := h w (Below.refl _ _)
theorem Box3.on {b : Nat} {x y z : Value} {w w' : World} (h : Box3 b x y z w) (hb : Below w.heap.size w w') : Box3 b x y z w' := fun w2 h2 => h w2 (mono_bel hb h2 (Nat.le_refl _))
/-- strconv.Itoa of each number of a tile that has a path. -/
def Ito (L I W : Int) (w : World) : Prop := ∀ (n : Int), n = L ∨ n = I ∨ n = W → ∀ w', Below w.heap.size w w' → Calls Tryd.prog 29 #[.int .i64 n] w' fun e w2 => e = .returned (.string (txN n)) ∧ Below w'.heap.size w' w2
theorem ito (L I W : Int) (B : Nat) (w : World) (hL : Ld B w) (hB : B ≤ w.heap.size) (h : okT L I W = true) : Ito L I W w := fun n hn w' hb => by
  have := okT_iff.1 h
  exact itoa_any n B w' (hL.here hb hB) (by rcases hn with rfl | rfl | rfl <;> omega) (by rcases hn with rfl | rfl | rfl <;> omega)
theorem Ito.on {L I W : Int} {w w' : World} (h : Ito L I W w) (hb : Below w.heap.size w w') : Ito L I W w' := fun n hn w2 h2 => h n hn w2 (mono_bel hb h2 (Nat.le_refl _))
set_option maxHeartbeats 1600000 in
set_option maxRecDepth 100000 in
theorem path_any (L I W : Int) (B : Nat) (w : World) (hL : Ld B w) (hB : B ≤ w.heap.size) :
    Calls Tryd.prog 10 #[tv L I W] w fun e w' => e = .returned (.string (pathT L I W)) ∧ Below w.heap.size w w' := by
  have hbx := bel_alloc w (.cells #[.int .i64 L, .int .i64 I, .int .i64 W] 23)
  have hG := good_any L I W (w.alloc (.cells #[.int .i64 L, .int .i64 I, .int .i64 W] 23))
  have hI := ito L I W B w hL hB
  have hc := fun w1 h => Box3.of (x := .int .i64 L) (y := .int .i64 I) (z := .int .i64 W) (t := 23) (w := w) (w1 := w1) rfl h
  unfold pathT
  unfold tv at *
  clear hL hB
  replace hI := Box.mk hI
  replace hc := Box.mk hc
  replace hbx := Box.mk hbx
  cases ho : okT L I W with
  | false =>
    rw [ho] at hG
    clear ho
    go_enter Tryd.func10, Tryd.ntmps10
    go_wp2_with fail
    refine hG.mono ?_
    clear hG
    rintro e w1 ⟨rfl, hb1⟩
    replace hb1 := Box.mk hb1
    go_wp2_with fail
    go_ret
    exact ⟨rfl, mono_bel hbx.out hb1.out (Nat.le_refl _)⟩
  | true =>
    rw [ho] at hG
    have hsz : Box ((txN L).size ≤ 21 ∧ (txN I).size ≤ 21 ∧ (txN W).size ≤ 21) := ⟨by have := okT_iff.1 ho; exact ⟨txN_size L (by omega) (by omega), txN_size I (by omega) (by omega), txN_size W (by omega) (by omega)⟩⟩
    go_enter Tryd.func10, Tryd.ntmps10
    go_wp2_with fail
    refine hG.mono ?_
    clear hG
    rintro e w1 ⟨rfl, hb1⟩
    have hc1 := Box.mk (hc.out w1 hb1)
    have hI1 := Box.mk ((hI.out ho).on (mono_bel (bel_alloc w (.cells #[.int .i64 L, .int .i64 I, .int .i64 W] 23)) hb1 (Nat.le_refl _)))
    have hb1' := Box.mk (mono_bel hbx.out hb1 (Nat.le_refl _))
    clear hc hI hb1 hbx
    go_wp2_with fail
    refine region_quiet (fun w' => Below w1.heap.size w1 w') (by kernel_rfl) (by kernel_rfl) (dB _) ?_
    repeat (go_big_quiet_step (first | exact fun _ => rfl | rfl))
    refine quiet_val rfl (.int .i64 L) (fun w' hw' => by have h3 := (hc1.out w' hw').1; go_simp) ?_
    simp only [Act.put, List.setIfInBounds_toArray, List.set_cons_succ, List.set_cons_zero]
    repeat (go_big_quiet_step (first | exact fun _ => rfl | rfl))
    refine quiet_call rfl (.string (txN L)) (fun w' hw' => bel_call (hI1.out L (.inl rfl) w' hw') hw') (fun w' _ => by go_simp) ?_
    simp only [Act.put, List.setIfInBounds_toArray, List.set_cons_succ, List.set_cons_zero]
    repeat (go_big_quiet_step (first | exact fun _ => rfl | rfl))
    refine quiet_val rfl (.string (sTile ++ txN L)) (fun w' _ => by unfold sTile; go_simp; have := hsz.out.1; omega) ?_
    simp only [Act.put, List.setIfInBounds_toArray, List.set_cons_succ, List.set_cons_zero]
    repeat (go_big_quiet_step (first | exact fun _ => rfl | rfl))
    refine quiet_val rfl (.string (sTile ++ txN L ++ sBar)) (fun w' _ => by unfold sBar; go_simp; have := hsz.out.1; rw [show sTile.size = 5 from rfl]; omega) ?_
    simp only [Act.put, List.setIfInBounds_toArray, List.set_cons_succ, List.set_cons_zero]
    repeat (go_big_quiet_step (first | exact fun _ => rfl | rfl))
    refine quiet_val rfl (.int .i64 I) (fun w' hw' => by have h3 := (hc1.out w' hw').2.1; go_simp) ?_
    simp only [Act.put, List.setIfInBounds_toArray, List.set_cons_succ, List.set_cons_zero]
    repeat (go_big_quiet_step (first | exact fun _ => rfl | rfl))
    refine quiet_call rfl (.string (txN I)) (fun w' hw' => bel_call (hI1.out I (.inr (.inl rfl)) w' hw') hw') (fun w' _ => by go_simp) ?_
    simp only [Act.put, List.setIfInBounds_toArray, List.set_cons_succ, List.set_cons_zero]
    repeat (go_big_quiet_step (first | exact fun _ => rfl | rfl))
    refine quiet_val rfl (.string (sTile ++ txN L ++ sBar ++ txN I)) (fun w' _ => by go_simp; have := hsz.out; rw [show sTile.size = 5 from rfl, show sBar.size = 1 from rfl]; omega) ?_
    simp only [Act.put, List.setIfInBounds_toArray, List.set_cons_succ, List.set_cons_zero]
    repeat (go_big_quiet_step (first | exact fun _ => rfl | rfl))
    refine wpQuiet_nil ?_
    intro w2 hw2
    have hb2 := Box.mk (mono_bel hb1'.out hw2 (Nat.le_refl _))
    have hI2 := Box.mk (hI1.out.on hw2)
    obtain ⟨k0, k1, k2⟩ := hc1.out w2 hw2
    have hP : (sTile ++ txN L ++ sBar ++ txN I).size ≤ 60 := by
      have := hsz.out
      rw [ByteArray.size_append, ByteArray.size_append, ByteArray.size_append, show sTile.size = 5 from rfl, show sBar.size = 1 from rfl]; omega
    have hW := hsz.out.2.2
    obtain ⟨P, hPe⟩ : ∃ P, sTile ++ txN L ++ sBar ++ txN I = P := ⟨_, rfl⟩
    have hI3 := hI2.out W (.inr (.inr rfl)) w2 (Below.refl _ _)
    obtain ⟨T, hT⟩ : ∃ T, txN W = T := ⟨_, rfl⟩
    rw [hPe] at hP ⊢
    rw [hT] at hI3 hW
    replace hPe := Box.mk hPe
    replace hT := Box.mk hT
    clear hI1 hc1 hw2 hb1' hI2 hsz
    by_cases hlt : W < 4
    · go_wp2_with fail
      refine hI3.mono ?_
      clear hI3
      rintro e w3 ⟨rfl, hb3⟩
      replace hb3 := Box.mk hb3
      go_wp2_with fail
      go_ret
      exact ⟨by rw [hPe.out, hT.out]; rfl, mono_bel hb2.out hb3.out (Nat.le_refl _)⟩
    · clear hI3
      go_wp2_with fail
      go_ret
      exact ⟨by rw [hPe.out]; rfl, hb2.out⟩
set_option maxHeartbeats 1600000 in
set_option maxRecDepth 100000 in
theorem dpath_any (L I W : Int) (B : Nat) (w : World) (hL : Ld B w) (hB : B ≤ w.heap.size) :
    Calls Tryd.prog 11 #[tv L I W] w fun e w' => e = .returned (.string (pathT L I W)) ∧ Below w.heap.size w w' := by
  have hbx := bel_alloc w (.cells #[.int .i64 L, .int .i64 I, .int .i64 W] 26)
  have hG := fit_any L I W (w.alloc (.cells #[.int .i64 L, .int .i64 I, .int .i64 W] 26))
  have hI := ito L I W B w hL hB
  have hc := fun w1 h => Box3.of (x := .int .i64 L) (y := .int .i64 I) (z := .int .i64 W) (t := 26) (w := w) (w1 := w1) rfl h
  unfold pathT
  unfold tv at *
  clear hL hB
  replace hI := Box.mk hI
  replace hc := Box.mk hc
  replace hbx := Box.mk hbx
  cases ho : okT L I W with
  | false =>
    rw [ho] at hG
    clear ho
    go_enter Tryd.func11, Tryd.ntmps11
    go_wp2_with fail
    refine hG.mono ?_
    clear hG
    rintro e w1 ⟨rfl, hb1⟩
    replace hb1 := Box.mk hb1
    go_wp2_with fail
    go_ret
    exact ⟨rfl, mono_bel hbx.out hb1.out (Nat.le_refl _)⟩
  | true =>
    rw [ho] at hG
    have hsz : Box ((txN L).size ≤ 21 ∧ (txN I).size ≤ 21 ∧ (txN W).size ≤ 21) := ⟨by have := okT_iff.1 ho; exact ⟨txN_size L (by omega) (by omega), txN_size I (by omega) (by omega), txN_size W (by omega) (by omega)⟩⟩
    go_enter Tryd.func11, Tryd.ntmps11
    go_wp2_with fail
    refine hG.mono ?_
    clear hG
    rintro e w1 ⟨rfl, hb1⟩
    have hc1 := Box.mk (hc.out w1 hb1)
    have hI1 := Box.mk ((hI.out ho).on (mono_bel (bel_alloc w (.cells #[.int .i64 L, .int .i64 I, .int .i64 W] 26)) hb1 (Nat.le_refl _)))
    have hb1' := Box.mk (mono_bel hbx.out hb1 (Nat.le_refl _))
    clear hc hI hb1 hbx
    go_wp2_with fail
    refine region_quiet (fun w' => Below w1.heap.size w1 w') (by kernel_rfl) (by kernel_rfl) (dB _) ?_
    repeat (go_big_quiet_step (first | exact fun _ => rfl | rfl))
    refine quiet_val rfl (.int .i64 L) (fun w' hw' => by have h3 := (hc1.out w' hw').1; go_simp) ?_
    simp only [Act.put, List.setIfInBounds_toArray, List.set_cons_succ, List.set_cons_zero]
    repeat (go_big_quiet_step (first | exact fun _ => rfl | rfl))
    refine quiet_call rfl (.string (txN L)) (fun w' hw' => bel_call (hI1.out L (.inl rfl) w' hw') hw') (fun w' _ => by go_simp) ?_
    simp only [Act.put, List.setIfInBounds_toArray, List.set_cons_succ, List.set_cons_zero]
    repeat (go_big_quiet_step (first | exact fun _ => rfl | rfl))
    refine quiet_val rfl (.string (sTile ++ txN L)) (fun w' _ => by unfold sTile; go_simp; have := hsz.out.1; omega) ?_
    simp only [Act.put, List.setIfInBounds_toArray, List.set_cons_succ, List.set_cons_zero]
    repeat (go_big_quiet_step (first | exact fun _ => rfl | rfl))
    refine quiet_val rfl (.string (sTile ++ txN L ++ sBar)) (fun w' _ => by unfold sBar; go_simp; have := hsz.out.1; rw [show sTile.size = 5 from rfl]; omega) ?_
    simp only [Act.put, List.setIfInBounds_toArray, List.set_cons_succ, List.set_cons_zero]
    repeat (go_big_quiet_step (first | exact fun _ => rfl | rfl))
    refine quiet_val rfl (.int .i64 I) (fun w' hw' => by have h3 := (hc1.out w' hw').2.1; go_simp) ?_
    simp only [Act.put, List.setIfInBounds_toArray, List.set_cons_succ, List.set_cons_zero]
    repeat (go_big_quiet_step (first | exact fun _ => rfl | rfl))
    refine quiet_call rfl (.string (txN I)) (fun w' hw' => bel_call (hI1.out I (.inr (.inl rfl)) w' hw') hw') (fun w' _ => by go_simp) ?_
    simp only [Act.put, List.setIfInBounds_toArray, List.set_cons_succ, List.set_cons_zero]
    repeat (go_big_quiet_step (first | exact fun _ => rfl | rfl))
    refine quiet_val rfl (.string (sTile ++ txN L ++ sBar ++ txN I)) (fun w' _ => by go_simp; have := hsz.out; rw [show sTile.size = 5 from rfl, show sBar.size = 1 from rfl]; omega) ?_
    simp only [Act.put, List.setIfInBounds_toArray, List.set_cons_succ, List.set_cons_zero]
    repeat (go_big_quiet_step (first | exact fun _ => rfl | rfl))
    refine wpQuiet_nil ?_
    intro w2 hw2
    have hb2 := Box.mk (mono_bel hb1'.out hw2 (Nat.le_refl _))
    have hI2 := Box.mk (hI1.out.on hw2)
    obtain ⟨k0, k1, k2⟩ := hc1.out w2 hw2
    have hP : (sTile ++ txN L ++ sBar ++ txN I).size ≤ 60 := by
      have := hsz.out
      rw [ByteArray.size_append, ByteArray.size_append, ByteArray.size_append, show sTile.size = 5 from rfl, show sBar.size = 1 from rfl]; omega
    have hW := hsz.out.2.2
    obtain ⟨P, hPe⟩ : ∃ P, sTile ++ txN L ++ sBar ++ txN I = P := ⟨_, rfl⟩
    have hI3 := hI2.out W (.inr (.inr rfl)) w2 (Below.refl _ _)
    obtain ⟨T, hT⟩ : ∃ T, txN W = T := ⟨_, rfl⟩
    rw [hPe] at hP ⊢
    rw [hT] at hI3 hW
    replace hPe := Box.mk hPe
    replace hT := Box.mk hT
    clear hI1 hc1 hw2 hb1' hI2 hsz
    by_cases hlt : W < 4
    · go_wp2_with fail
      refine hI3.mono ?_
      clear hI3
      rintro e w3 ⟨rfl, hb3⟩
      replace hb3 := Box.mk hb3
      go_wp2_with fail
      go_ret
      exact ⟨by rw [hPe.out, hT.out, ← ByteArray.append_assoc]; rfl, mono_bel hb2.out hb3.out (Nat.le_refl _)⟩
    · clear hI3
      go_wp2_with fail
      go_ret
      exact ⟨by rw [hPe.out]; rfl, hb2.out⟩
end Go.Proofs.YtlkopllpadhnlaaDoor

namespace Go.Proofs.YtlkopllpadhnlaaDoor
open Go Go.RowKit

def isD (c : UInt8) : Bool := decide (48 ≤ c) && decide (c ≤ 57)
/-- How many digits stand at the front, at most so many. -/
def cntD : Nat → List UInt8 → Nat
  | f + 1, c :: r => if isD c then cntD f r + 1 else 0
  | _, _ => 0
def valD (l : List UInt8) : Nat := l.foldl (fun n c => 10 * n + (c.toNat - 48)) 0
theorem valD_snoc (l : List UInt8) (c : UInt8) : valD (l ++ [c]) = 10 * valD l + (c.toNat - 48) := by unfold valD; rw [List.foldl_append]; rfl
theorem cntD_le : ∀ (f : Nat) (l : List UInt8), cntD f l ≤ f ∧ cntD f l ≤ l.length
  | 0, l => by simp [cntD]
  | f + 1, [] => by simp [cntD]
  | f + 1, c :: r => by
    have := cntD_le f r
    rw [cntD]; split
    · simp; omega
    · simp
/-- The loop's question. -/
theorem cntD_at : ∀ (f : Nat) (l : List UInt8) (i : Nat), i ≤ cntD f l → ((i < l.length ∧ i < f ∧ isD (l.getD i 0) = true) ↔ i < cntD f l)
  | 0, l, i, h => by simp [cntD] at *
  | f + 1, [], i, h => by simp [cntD] at *
  | f + 1, c :: r, 0, h => by
    rw [cntD]
    by_cases hd : isD c = true
    · simp [hd]
    · simp [hd]
  | f + 1, c :: r, i + 1, h => by
    rw [cntD] at h ⊢
    by_cases hd : isD c = true
    · rw [if_pos hd] at h ⊢
      have := cntD_at f r i (by omega)
      simp only [List.length_cons, Nat.add_lt_add_iff_right, List.getD_cons_succ] at this ⊢
      exact this
    · rw [if_neg hd] at h; omega
theorem cntD_app : ∀ (a b : List UInt8) (f : Nat), (∀ c ∈ a, isD c = true) → a.length ≤ f → (∀ c r, b = c :: r → isD c = false) → cntD f (a ++ b) = a.length
  | [], b, f, _, _, hb => by
    cases f with
    | zero => rfl
    | succ f =>
      cases b with
      | nil => rfl
      | cons c r => rw [List.nil_append, cntD, if_neg (by simp [hb c r rfl])]; rfl
  | c :: a, b, 0, _, hf, _ => by simp at hf
  | c :: a, b, f + 1, ha, hf, hb => by
    rw [List.cons_append, cntD, if_pos (ha c (by simp)), cntD_app a b f (fun x hx => ha x (by simp [hx])) (by simpa using hf) hb]; rfl
theorem dig_of (u : Nat) (h : u < 10) : isD (UInt8.ofNat (48 + u)) = true ∧ (UInt8.ofNat (48 + u)).toNat = 48 + u := by
  have : ∀ u : Fin 10, isD (UInt8.ofNat (48 + u.val)) = true ∧ (UInt8.ofNat (48 + u.val)).toNat = 48 + u.val := by decide
  exact this ⟨u, h⟩
theorem dec_dig (u : Nat) : (∀ c ∈ Lib.decDigits u, isD c = true) ∧ valD (Lib.decDigits u) = u ∧ (u ≠ 0 → ∀ c r, Lib.decDigits u = c :: r → c ≠ 48) ∧ Lib.decDigits u ≠ [] := by
  induction u using Nat.strongRecOn with
  | ind u ih =>
    by_cases h : u < 10
    · obtain ⟨h1, h2⟩ := dig_of u h
      rw [Lib.decDigits, dif_pos h]
      refine ⟨fun c hc => by rw [List.mem_singleton.1 hc]; exact h1, by show 10 * 0 + ((UInt8.ofNat (48 + u)).toNat - 48) = u; rw [h2]; omega, fun h0 c r e hc => ?_, by simp⟩
      injection e with e1 e2
      rw [hc] at e1
      have := congrArg UInt8.toNat e1
      rw [h2] at this
      simp at this; omega
    · obtain ⟨i1, i2, i3, i4⟩ := ih (u / 10) (by omega)
      obtain ⟨h1, h2⟩ := dig_of (u % 10) (by omega)
      rw [Lib.decDigits, dif_neg h]
      refine ⟨fun c hc => ?_, by rw [valD_snoc, i2, h2]; omega, fun h0 c r e => ?_, by simp⟩
      · rcases List.mem_append.1 hc with hc | hc
        · exact i1 c hc
        · rw [List.mem_singleton.1 hc]; exact h1
      · cases hd : Lib.decDigits (u / 10) with
        | nil => exact absurd hd i4
        | cons c2 r2 =>
          rw [hd] at e
          injection e with e1 e2
          rw [← e1]
          exact i3 (by omega) c2 r2 hd
theorem dec_len : ∀ (k u : Nat), 1 ≤ k → u < 10 ^ k → (Lib.decDigits u).length ≤ k
  | 0, _, h, _ => by omega
  | k + 1, u, _, h => by
    rw [Lib.decDigits]
    split
    · simp
    · next h10 =>
      have hk : 1 ≤ k := by
        rcases Nat.eq_zero_or_pos k with h0 | h0
        · subst h0; simp at h; omega
        · exact h0
      have := dec_len k (u / 10) hk (by rw [Nat.pow_succ] at h; omega)
      simp; omega
/-- What the document's digits answers. -/
def digD (l : List UInt8) : Int × List UInt8 := if cntD 14 l = 0 ∨ l.getD 0 0 = 48 ∧ 1 < cntD 14 l then (-1, []) else ((valD (l.take (cntD 14 l)) : Int), l.drop (cntD 14 l))
theorem digD_dec (u : Nat) (hu : u ≤ 1099511627776) (b : List UInt8) (hb : ∀ c r, b = c :: r → isD c = false) : digD (Lib.decDigits u ++ b) = ((u : Int), b) := by
  obtain ⟨h1, h2, h3, h4⟩ := dec_dig u
  have hl := dec_len 13 u (by decide) (by omega)
  unfold digD
  rw [cntD_app _ b 14 h1 (by omega) hb, if_neg, List.take_left' rfl, List.drop_left' rfl, h2]
  rintro (h | ⟨h, h'⟩)
  · exact h4 (List.length_eq_zero_iff.1 h)
  · cases hd : Lib.decDigits u with
    | nil => exact h4 hd
    | cons c r =>
      rw [hd] at h h'
      have hc : c = 48 := by simpa using h
      by_cases h0 : u = 0
      · subst h0
        rw [show Lib.decDigits 0 = [48] from by rw [Lib.decDigits]; rfl] at hd
        injection hd with e1 e2
        rw [← e2] at h'
        simp at h'
      · exact h3 h0 c r hd hc
/-- What stands behind a beginning. -/
def bhD (l p : List UInt8) : Option (List UInt8) := if l.take p.length = p then some (l.drop p.length) else none
theorem bhD_app (p b : List UInt8) : bhD (p ++ b) p = some b := by unfold bhD; simp
def lTile : List UInt8 := [116, 105, 108, 101, 47]
def lBar : List UInt8 := [47]
def lPart : List UInt8 := [46, 112, 47]
/-- The width, and what is left. -/
def widD (l : List UInt8) : Int × List UInt8 := match bhD l lPart with
  | some p => digD p
  | none => (4, l)
/-- What the document reads out of a text. -/
def parseD (l : List UInt8) : Option (Int × Int × Int) := match bhD l lTile with
  | none => none
  | some s1 => match bhD (digD s1).2 lBar with
    | none => none
    | some s3 => if (widD (digD s3).2).2 = [] ∧ (pathT (digD s1).1 (digD s3).1 (widD (digD s3).2).1).data.toList = l then some ((digD s1).1, (digD s3).1, (widD (digD s3).2).1) else none
theorem app_list (a b : ByteArray) : (a ++ b).data.toList = a.data.toList ++ b.data.toList := by simp [ByteArray.data_append]
theorem txN_list (n : Nat) : (txN (n : Int)).data.toList = Lib.decDigits n := by unfold txN; rw [Lib.itoa_nonneg]
theorem path_list (L I W : Nat) (h : okT L I W = true) : (pathT L I W).data.toList = lTile ++ (Lib.decDigits L ++ (lBar ++ (Lib.decDigits I ++ (if W < 4 then lPart ++ Lib.decDigits W else [])))) := by
  unfold pathT
  rw [if_pos h]
  by_cases hw : W < 4
  · rw [if_pos (by omega), if_pos hw]
    simp only [app_list, txN_list, List.append_assoc]
    rfl
  · rw [if_neg (by omega), if_neg hw]
    simp only [app_list, txN_list, List.append_assoc, List.append_nil]
    rfl
theorem nats {L I W : Int} (h : okT L I W = true) : ∃ l i w : Nat, L = l ∧ I = i ∧ W = w ∧ l ≤ 30 ∧ i ≤ 1099511627776 ∧ 1 ≤ w ∧ w ≤ 4 := by
  have := okT_iff.1 h
  exact ⟨L.toNat, I.toNat, W.toNat, by omega, by omega, by omega, by omega, by omega, by omega, by omega⟩
/-- A path is read as its tile. -/
theorem parse_path (L I W : Int) (h : okT L I W = true) : parseD (pathT L I W).data.toList = some (L, I, W) := by
  obtain ⟨l, i, w, rfl, rfl, rfl, hl, hi, hw1, hw4⟩ := nats h
  have hp := path_list l i w h
  obtain ⟨P, hP⟩ : ∃ P, (pathT l i w).data.toList = P := ⟨_, rfl⟩
  have hd1 : digD (Lib.decDigits l ++ (lBar ++ (Lib.decDigits i ++ (if w < 4 then lPart ++ Lib.decDigits w else [])))) = ((l : Int), lBar ++ (Lib.decDigits i ++ (if w < 4 then lPart ++ Lib.decDigits w else []))) :=
    digD_dec l (by omega) _ (by rintro c r e; injection e with e1 e2; rw [← e1]; decide)
  have hd2 : digD (Lib.decDigits i ++ (if w < 4 then lPart ++ Lib.decDigits w else [])) = ((i : Int), if w < 4 then lPart ++ Lib.decDigits w else []) :=
    digD_dec i (by omega) _ (by
      rintro c r e
      split at e
      · injection e with e1 e2; rw [← e1]; decide
      · cases e)
  have hd3 : widD (if w < 4 then lPart ++ Lib.decDigits w else []) = ((w : Int), []) := by
    unfold widD
    by_cases h4 : w < 4
    · rw [if_pos h4, bhD_app]
      have := digD_dec w (by omega) [] (by rintro c r e; cases e)
      rw [List.append_nil] at this
      exact this
    · rw [if_neg h4]
      have : w = 4 := by omega
      subst this
      rfl
  have hb1 : bhD P lTile = some (Lib.decDigits l ++ (lBar ++ (Lib.decDigits i ++ (if w < 4 then lPart ++ Lib.decDigits w else [])))) := by rw [← hP, hp, bhD_app]
  have hb2 : bhD (lBar ++ (Lib.decDigits i ++ (if w < 4 then lPart ++ Lib.decDigits w else []))) lBar = some (Lib.decDigits i ++ (if w < 4 then lPart ++ Lib.decDigits w else [])) := bhD_app _ _
  rw [hP]
  unfold parseD
  rw [hb1]
  simp only
  rw [hd1]
  simp only
  rw [hb2]
  simp only
  rw [hd2]
  simp only
  rw [hd3]
  simp only
  rw [if_pos ⟨by trivial, hP⟩]
/-- What is read has the text as its path. -/
theorem parse_some {l : List UInt8} {L I W : Int} (h : parseD l = some (L, I, W)) : (pathT L I W).data.toList = l ∧ okT L I W = true := by
  have h1 : (pathT L I W).data.toList = l ∧ l ≠ [] := by
    unfold parseD at h
    cases hb : bhD l lTile with
    | none => rw [hb] at h; cases h
    | some s1 =>
      have hl : l ≠ [] := by rintro rfl; simp [bhD, lTile] at hb
      rw [hb] at h
      simp only at h
      cases hb2 : bhD (digD s1).2 lBar with
      | none => rw [hb2] at h; cases h
      | some s3 =>
        rw [hb2] at h
        simp only at h
        split at h
        · next hc =>
          injection h with h
          injection h with e1 h
          injection h with e2 e3
          rw [e1, e2, e3] at hc
          exact ⟨hc.2, hl⟩
        · cases h
  refine ⟨h1.1, ?_⟩
  cases ho : okT L I W with
  | true => rfl
  | false =>
    exfalso
    refine h1.2 ?_
    rw [← h1.1]
    unfold pathT
    rw [ho]
    rfl
end Go.Proofs.YtlkopllpadhnlaaDoor

namespace Go.Proofs.YtlkopllpadhnlaaDoor
open Go Go.RowKit

def btxt (l : List UInt8) : ByteArray := ⟨l.toArray⟩
set_option maxHeartbeats 1600000 in
set_option maxRecDepth 100000 in
theorem behind_any (s p : ByteArray) (w : World) :
    Calls Tryd.prog 34 #[.string s, .string p] w fun e w' => e = .returned (match bhD s.data.toList p.data.toList with | some r => .tuple #[.string (btxt r), .bool true] | none => .tuple #[.string (btxt []), .bool false]) ∧ w = w' := by
  by_cases hl : s.size < p.size
  · have hn : bhD s.data.toList p.data.toList = none := by
      unfold bhD
      rw [if_neg]
      intro h
      have := congrArg List.length h
      rw [List.length_take, data_len, data_len] at this
      omega
    rw [hn]
    have hli : (s.size : Int) < (p.size : Int) := by omega
    clear hn
    go_enter Tryd.func34, Tryd.ntmps34
    go_wp2_with fail
    go_returns
    exact ⟨rfl, rfl⟩
  · have hli : ¬ (s.size : Int) < (p.size : Int) := by omega
    have hle : p.size ≤ s.size := by omega
    have hx1 : (s.extract 0 p.size).toList = s.data.toList.take p.data.toList.length := by
      rw [ByteArray.toList_eq, data_len]; simp [ByteArray.data_extract]
    have hx2 : (s.extract p.size s.size) = btxt (s.data.toList.drop p.data.toList.length) := by
      refine ba_ext ?_
      rw [data_len]; unfold btxt; simp [ByteArray.data_extract]
      rw [List.take_of_length_le (by simp)]
    have hpl : p.toList = p.data.toList := ByteArray.toList_eq _
    by_cases he : s.data.toList.take p.data.toList.length = p.data.toList
    · have hq : ((s.extract 0 p.size).toList == p.toList) = true := by rw [hx1, hpl, he]; simp
      have hb : bhD s.data.toList p.data.toList = some (s.data.toList.drop p.data.toList.length) := by unfold bhD; rw [if_pos he]
      rw [hb]
      replace hx2 := Box.mk hx2
      clear hx1 hpl he hb
      go_enter Tryd.func34, Tryd.ntmps34
      go_wp2_with fail
      go_returns
      exact ⟨by rw [hx2.out]; rfl, rfl⟩
    · have hq : ((s.extract 0 p.size).toList == p.toList) = false := by rw [hx1, hpl]; simpa using he
      have hb : bhD s.data.toList p.data.toList = none := by unfold bhD; rw [if_neg he]
      rw [hb]
      clear hx1 hpl he hb hx2
      go_enter Tryd.func34, Tryd.ntmps34
      go_wp2_with fail
      go_returns
      exact ⟨rfl, rfl⟩
theorem at_get (s : ByteArray) (i : Nat) (h : i < s.size) : s.data.toList.getD i 0 = s[i] := by
  rw [List.getD_eq_getElem?_getD, List.getElem?_eq_getElem (by rw [data_len]; exact h)]
  rfl
theorem isD_iff (c : UInt8) : isD c = true ↔ 48 ≤ c.toNat ∧ c.toNat ≤ 57 := by
  unfold isD
  rw [Bool.and_eq_true, decide_eq_true_iff, decide_eq_true_iff, UInt8.le_iff_toNat_le, UInt8.le_iff_toNat_le]
  exact Iff.rfl
theorem take_next (l : List UInt8) (i : Nat) (h : i < l.length) : l.take (i + 1) = l.take i ++ [l.getD i 0] := by
  rw [List.take_add_one, List.getElem?_eq_getElem h, List.getD_eq_getElem?_getD, List.getElem?_eq_getElem h]; rfl
theorem valD_lt : ∀ (i : Nat) (l : List UInt8), i ≤ 14 → i ≤ l.length → (∀ j, j < i → isD (l.getD j 0) = true) → valD (l.take i) < 10 ^ i
  | 0, l, _, _, _ => by simp [valD]
  | i + 1, l, h1, h2, h3 => by
    have := valD_lt i l (by omega) (by omega) fun j hj => h3 j (by omega)
    have hd := (isD_iff _).1 (h3 i (by omega))
    rw [take_next l i (by omega), valD_snoc, Nat.pow_succ]
    omega
theorem cntD_all : ∀ (f : Nat) (l : List UInt8) (j : Nat), j < cntD f l → isD (l.getD j 0) = true
  | 0, l, j, h => by simp [cntD] at h
  | f + 1, [], j, h => by simp [cntD] at h
  | f + 1, c :: r, j, h => by
    rw [cntD] at h
    by_cases hd : isD c = true
    · rw [if_pos hd] at h
      cases j with
      | zero => simpa using hd
      | succ j => simpa using cntD_all f r j (by omega)
    · rw [if_neg hd] at h; omega
/-- What digits answers, its count told. -/
theorem digD_bad (l : List UInt8) (i : Nat) (hi : cntD 14 l = i) (h : i = 0 ∨ l.getD 0 0 = 48 ∧ 1 < i) : digD l = (-1, []) := by unfold digD; rw [hi, if_pos h]
theorem digD_ok (l : List UInt8) (i : Nat) (hi : cntD 14 l = i) (h : ¬ (i = 0 ∨ l.getD 0 0 = 48 ∧ 1 < i)) : digD l = ((valD (l.take i) : Int), l.drop i) := by unfold digD; rw [hi, if_neg h]
set_option maxHeartbeats 3200000 in
set_option maxRecDepth 100000 in
theorem digits_any (s : ByteArray) (w : World) (hs : s.size ≤ 140737488355328) :
    Calls Tryd.prog 35 #[.string s] w fun e w' => e = .returned (.tuple #[.int .i64 (digD s.data.toList).1, .string (btxt (digD s.data.toList).2)]) ∧ Below w.heap.size w w' := by
  obtain ⟨l, hl⟩ : ∃ l, s.data.toList = l := ⟨_, rfl⟩
  have hlen : l.length = s.size := by rw [← hl, data_len]
  have hget : ∀ i (h : i < s.size), l.getD i 0 = s[i] := fun i h => by rw [← hl]; exact at_get s i h
  have hdr : ∀ i, i ≤ s.size → s.extract i s.size = btxt (l.drop i) := fun i h => by
    refine ba_ext ?_
    unfold btxt
    rw [← hl]; simp [ByteArray.data_extract]
    rw [List.take_of_length_le (by simp)]
  rw [hl]
  have hall := cntD_all 14 l
  have hcle := cntD_le 14 l
  obtain ⟨N, hN⟩ : ∃ N, cntD 14 l = N := ⟨_, rfl⟩
  have hat := cntD_at 14 l
  rw [hN] at hat hall hcle
  have hbad := Box.mk (digD_bad l N hN)
  have hok := Box.mk (digD_ok l N hN)
  have hval := fun i hi => valD_lt i l hi
  clear hl hN
  obtain ⟨D, hD⟩ : ∃ D, digD l = D := ⟨_, rfl⟩
  rw [hD] at hbad hok ⊢
  clear hD
  replace hat := Box.mk hat
  replace hget := Box.mk hget
  replace hall := Box.mk hall
  replace hval := Box.mk hval
  replace hdr := Box.mk hdr
  go_enter Tryd.func35, Tryd.ntmps35
  go_wp2_with fail
  go_loopw [4, 5] (fun v4 v5 wr => ∃ i : Nat, i ≤ N ∧ v4 = .int .i64 (i : Int) ∧ v5 = .int .i64 (valD (l.take i) : Int) ∧ wr = w) (fun v4 _ _ => N - (intOf v4).toNat)
  case atStart => exact ⟨0, by omega, rfl, rfl, rfl⟩
  case round =>
    obtain ⟨i, hi, rfl, rfl, rfl⟩ := hrel
    by_cases hlt : i < N
    · obtain ⟨h1, h2, h3⟩ := (hat.out i hi).2 hlt
      have his : i < s.size := by omega
      rw [hget.out i his] at h3
      obtain ⟨h4, h5⟩ := (isD_iff _).1 h3
      have hv := hval.out i (by omega) (by omega) fun j hj => hall.out j (by omega)
      have hv2 : valD (l.take i) < 100000000000000 := Nat.lt_of_lt_of_le hv (Nat.le_trans (Nat.pow_le_pow_right (by decide) (show i ≤ 14 by omega)) (by decide))
      have hnx : Box (valD (l.take (i + 1)) = 10 * valD (l.take i) + (s[i].toNat - 48)) := ⟨by rw [take_next l i h1, valD_snoc, hget.out i his]⟩
      obtain ⟨v, hve⟩ : ∃ v, valD (l.take i) = v := ⟨_, rfl⟩
      rw [hve] at hv hv2 hnx ⊢
      have q1 : (i : Int) < 14 := by omega
      have q2 : (i : Int) < (s.size : Int) := by omega
      have q3 : (48 : Int) ≤ ((s[i].toNat : Nat) : Int) := by omega
      have q4 : ((s[i].toNat : Nat) : Int) ≤ 57 := by omega
      clear hv hve h3
      go_wp2_with fail
      refine ⟨⟨i + 1, by omega, by go_num, ?_, trivial⟩, by simp [intOf]; omega⟩
      rw [hnx.out]; congr 1; omega
    · obtain rfl : i = N := by omega
      have hno := hat.out i hi
      have hno2 : ¬ (i < s.size) ∨ i < s.size ∧ ¬ ((i : Int) < 14) ∨ ∃ h : i < s.size, (i : Int) < 14 ∧ (¬ ((48 : Int) ≤ ((s[i].toNat : Nat) : Int)) ∨ (48 : Int) ≤ ((s[i].toNat : Nat) : Int) ∧ ¬ (((s[i].toNat : Nat) : Int) ≤ 57)) := by
        by_cases h1 : i < s.size
        · by_cases h2 : i < 14
          · refine .inr (.inr ⟨h1, by omega, ?_⟩)
            have h3 : ¬ isD s[i] = true := fun h => hlt (hno.1 ⟨by omega, h2, by rw [hget.out i h1]; exact h⟩)
            rw [isD_iff] at h3
            omega
          · exact .inr (.inl ⟨h1, by omega⟩)
        · exact .inl h1
      have hsi : i ≤ s.size := by omega
      have h0 : 0 < i → ∃ h : 0 < s.size, (l.getD 0 0 = 48 ↔ ((s[0].toNat : Nat) : Int) = 48) := fun h => ⟨by omega, by
        rw [hget.out 0 (by omega)]
        constructor
        · intro h; rw [h]; rfl
        · intro h; exact UInt8.toNat_inj.1 (by rw [show (48 : UInt8).toNat = 48 from rfl]; omega)⟩
      obtain ⟨v, hve⟩ : ∃ v, valD (l.take i) = v := ⟨_, rfl⟩
      have hdri := Box.mk (hdr.out i hsi)
      rw [hve] at hok ⊢
      clear hlt hno hat hget hall hval hdr hve
      by_cases hi0 : i = 0
      · have hD := Box.mk (hbad.out (.inl hi0))
        subst hi0
        clear h0 hok hbad
        rcases hno2 with h | ⟨h, h2⟩ | ⟨h, h2, h3 | ⟨h3, h4⟩⟩
        all_goals (go_wp2_with fail; all_goals (go_returns; exact ⟨by rw [hD.out]; rfl, Below.refl _ _⟩))
      · obtain ⟨h0s, h48⟩ := h0 (by omega)
        have hi1 : ¬ ((i : Int) = 0) := by omega
        have hib : ((i : Int) == 0) = false := by simpa using hi0
        by_cases h8 : ((s[0].toNat : Nat) : Int) = 48
        · by_cases h11 : 1 < i
          · have hD := Box.mk (hbad.out (.inr ⟨h48.2 h8, h11⟩))
            have q1 : (1 : Int) < (i : Int) := by omega
            clear h0 hok hbad h48
            rcases hno2 with h | ⟨h, h2⟩ | ⟨h, h2, h3 | ⟨h3, h4⟩⟩
            all_goals (go_wp2_with fail; go_returns; exact ⟨by rw [hD.out]; rfl, Below.refl _ _⟩)
          · have hD := Box.mk (hok.out fun h => by rcases h with h | ⟨_, h⟩ <;> omega)
            have q1 : ¬ (1 : Int) < (i : Int) := by omega
            clear h0 hok hbad h48
            rcases hno2 with h | ⟨h, h2⟩ | ⟨h, h2, h3 | ⟨h3, h4⟩⟩
            all_goals (go_wp2_with fail; refine region_quiet (fun w' => Below wr.heap.size wr w') (by kernel_rfl) (by kernel_rfl) (dB _) ?_; (repeat (go_big_quiet_step (first | exact fun _ => rfl | rfl))); refine wpQuiet_nil ?_; intro w2 hb2; replace hb2 := Box.mk hb2; go_wp2_with fail; go_returns; exact ⟨by rw [hD.out, ← hdri.out]; rfl, hb2.out⟩)
        · have hD := Box.mk (hok.out fun h => by
            rcases h with h | ⟨h, _⟩
            · exact hi0 h
            · exact h8 (h48.1 h))
          have h8b : (((s[0].toNat : Nat) : Int) == 48) = false := by simpa using h8
          clear h0 hok hbad h48
          rcases hno2 with h | ⟨h, h2⟩ | ⟨h, h2, h3 | ⟨h3, h4⟩⟩
          all_goals (go_wp2_with fail; refine region_quiet (fun w' => Below wr.heap.size wr w') (by kernel_rfl) (by kernel_rfl) (dB _) ?_; (repeat (go_big_quiet_step (first | exact fun _ => rfl | rfl))); refine wpQuiet_nil ?_; intro w2 hb2; replace hb2 := Box.mk hb2; go_wp2_with fail; go_returns; exact ⟨by rw [hD.out, ← hdri.out]; rfl, hb2.out⟩)
end Go.Proofs.YtlkopllpadhnlaaDoor

namespace Go.Proofs.YtlkopllpadhnlaaDoor
open Go Go.RowKit

/-- In the document's Parse: the answer's cell and the tile's. -/
structure PS (w0 : World) (x y z : Value) (w : World) : Prop where
  b2 : Pk.Blk w w0.heap.size [.int .i64 0, .int .i64 0, .int .i64 0] 26
  b6 : Pk.Blk w (w0.heap.size + 1) [x, y, z] 26
  bel : Below w0.heap.size w0 w
theorem PS.new (w0 : World) (x y z : Value) : PS w0 x y z ((w0.alloc (.cells #[.int .i64 0, .int .i64 0, .int .i64 0] 26)).alloc (.cells #[x, y, z] 26)) := by
  refine ⟨(Below.heap_alloc _ _ _ (by simp)).trans (Pk.Blk.new w0 _ _), ?_, mono_bel (bel_alloc _ _) (bel_alloc _ _) (Nat.le_refl _)⟩
  have := Pk.Blk.new (w0.alloc (.cells #[.int .i64 0, .int .i64 0, .int .i64 0] 26)) [x, y, z] 26
  simpa using this
theorem PS.on {w0 w w' : World} {x y z : Value} (h : PS w0 x y z w) (hb : Below w.heap.size w w') : PS w0 x y z w' :=
  ⟨(hb.block _ h.b2.lt).trans h.b2, (hb.block _ h.b6.lt).trans h.b6, mono_bel h.bel hb (Nat.le_refl _)⟩
theorem PS.keep {w0 w : World} {x y z : Value} (h : PS w0 x y z w) (i : Nat) (v : Value) : Pk.Blk (w.setCell ⟨w0.heap.size + 1, i, none⟩ v) w0.heap.size [.int .i64 0, .int .i64 0, .int .i64 0] 26 :=
  (Below.heap_setCell _ _ _ _ (by simp)).trans h.b2
theorem PS.bel1 {w0 w : World} {x y z : Value} (h : PS w0 x y z w) (i : Nat) (v : Value) : Below w0.heap.size w0 (w.setCell ⟨w0.heap.size + 1, i, none⟩ v) := h.bel.setCell (p := ⟨w0.heap.size + 1, i, none⟩) (by simp) v
theorem PS.set0 {w0 w : World} {x y z : Value} (h : PS w0 x y z w) (v : Value) : PS w0 v y z (w.setCell ⟨w0.heap.size + 1, 0, none⟩ v) := ⟨h.keep _ _, h.b6.setCell 0 v, h.bel1 _ _⟩
theorem PS.set1 {w0 w : World} {x y z : Value} (h : PS w0 x y z w) (v : Value) : PS w0 x v z (w.setCell ⟨w0.heap.size + 1, 1, none⟩ v) := ⟨h.keep _ _, h.b6.setCell 1 v, h.bel1 _ _⟩
theorem PS.set2 {w0 w : World} {x y z : Value} (h : PS w0 x y z w) (v : Value) : PS w0 x y v (w.setCell ⟨w0.heap.size + 1, 2, none⟩ v) := ⟨h.keep _ _, h.b6.setCell 2 v, h.bel1 _ _⟩
theorem PS.cells {w0 w : World} {x y z : Value} (h : PS w0 x y z w) : w.cell? ⟨w0.heap.size + 1, 0, none⟩ = some x ∧ w.cell? ⟨w0.heap.size + 1, 1, none⟩ = some y ∧ w.cell? ⟨w0.heap.size + 1, 2, none⟩ = some z ∧
    w.frozen? ⟨w0.heap.size + 1, 0, none⟩ = false ∧ w.frozen? ⟨w0.heap.size + 1, 1, none⟩ = false ∧ w.frozen? ⟨w0.heap.size + 1, 2, none⟩ = false ∧
    w.cell? ⟨w0.heap.size, 0, none⟩ = some (.int .i64 0) ∧ w.cell? ⟨w0.heap.size, 1, none⟩ = some (.int .i64 0) ∧ w.cell? ⟨w0.heap.size, 2, none⟩ = some (.int .i64 0) ∧
    w.frozen? ⟨w0.heap.size, 0, none⟩ = false ∧ w.frozen? ⟨w0.heap.size, 1, none⟩ = false ∧ w.frozen? ⟨w0.heap.size, 2, none⟩ = false :=
  ⟨h.b6.cell 0, h.b6.cell 1, h.b6.cell 2, h.b6.free 0, h.b6.free 1, h.b6.free 2, h.b2.cell 0, h.b2.cell 1, h.b2.cell 2, h.b2.free 0, h.b2.free 1, h.b2.free 2⟩
/-- The answer is stored. -/
def PS.fin (w0 w : World) (a b c : Value) : World := ((w.setCell ⟨w0.heap.size, 0, none⟩ a).setCell ⟨w0.heap.size, 1, none⟩ b).setCell ⟨w0.heap.size, 2, none⟩ c
theorem PS.out {w0 w : World} {x y z : Value} (h : PS w0 x y z w) (a b c : Value) : (PS.fin w0 w a b c).cell? ⟨w0.heap.size, 0, none⟩ = some a ∧ (PS.fin w0 w a b c).cell? ⟨w0.heap.size, 1, none⟩ = some b ∧ (PS.fin w0 w a b c).cell? ⟨w0.heap.size, 2, none⟩ = some c ∧ Below w0.heap.size w0 (PS.fin w0 w a b c) := by
  have k : Pk.Blk (PS.fin w0 w a b c) w0.heap.size [a, b, c] 26 := ((h.b2.setCell 0 a).setCell 1 b).setCell 2 c
  exact ⟨k.cell 0, k.cell 1, k.cell 2, ((h.bel.setCell (p := ⟨w0.heap.size, 0, none⟩) (Nat.le_refl _) a).setCell (p := ⟨w0.heap.size, 1, none⟩) (Nat.le_refl _) b).setCell (p := ⟨w0.heap.size, 2, none⟩) (Nat.le_refl _) c⟩
/-- What Parse answers. -/
def parV (l : List UInt8) : Value := match parseD l with
  | some (L, I, W) => .tuple #[tv L I W, .int .i64 0]
  | none => .tuple #[tv 0 0 0, .int .i64 3]
theorem btxt_list (l : List UInt8) : (btxt l).data.toList = l := rfl
theorem btxt_size (l : List UInt8) : (btxt l).size = l.length := rfl
theorem bhD_len {l p r : List UInt8} (h : bhD l p = some r) : r.length ≤ l.length := by
  unfold bhD at h
  split at h
  · injection h with h; rw [← h, List.length_drop]; omega
  · cases h
theorem digD_len (l : List UInt8) : (digD l).2.length ≤ l.length := by
  unfold digD
  split
  · simp
  · simp
theorem digD_int (l : List UInt8) : -1 ≤ (digD l).1 ∧ (digD l).1 < 100000000000000 := by
  unfold digD
  split
  · simp
  · refine ⟨by omega, ?_⟩
    have h1 := cntD_le 14 l
    have := valD_lt (cntD 14 l) l h1.1 h1.2 (cntD_all 14 l)
    have h2 : (10 : Nat) ^ cntD 14 l ≤ 10 ^ 14 := Nat.pow_le_pow_right (by decide) h1.1
    simp only
    omega
set_option maxHeartbeats 3200000 in
set_option maxRecDepth 100000 in
theorem dparse_any (s : ByteArray) (B : Nat) (w : World) (hL : Ld B w) (hB : B ≤ w.heap.size) (hs : s.size ≤ 140737488355328) :
    Calls Tryd.prog 13 #[.string s] w fun e w' => e = .returned (parV s.data.toList) ∧ Below w.heap.size w w' := by
  obtain ⟨l, hl⟩ : ∃ l, s.data.toList = l := ⟨_, rfl⟩
  have h1 := fun w' => behind_any s sTile w'
  rw [hl, show sTile.data.toList = lTile from rfl] at h1
  have hlen : l.length = s.size := by rw [← hl, data_len]
  rw [hl]
  cases hb1 : bhD l lTile with
  | none =>
    have hp : parV l = .tuple #[tv 0 0 0, .int .i64 3] := by unfold parV parseD; rw [hb1]
    rw [hb1] at h1
    simp only at h1
    rw [hp]
    unfold tv
    clear hL hB hs hl hlen hb1 hp
    replace h1 := Box.mk h1
    go_enter Tryd.func13, Tryd.ntmps13
    go_wp2_with fail
    refine (h1.out _).mono ?_
    rintro e w1 ⟨rfl, rfl⟩
    go_wp2_with fail
    go_returns
    exact ⟨rfl, bel_alloc _ _⟩
  | some s1 =>
    rw [hb1] at h1
    simp only at h1
    have hl1 := bhD_len hb1
    have hD1 := fun w' => digits_any (btxt s1) w' (by rw [btxt_size]; omega)
    have hn1 := digD_int s1
    have hd1 := digD_len s1
    rw [btxt_list] at hD1
    have hpar : parseD l = match bhD (digD s1).2 lBar with
      | none => none
      | some s3 => if (widD (digD s3).2).2 = [] ∧ (pathT (digD s1).1 (digD s3).1 (widD (digD s3).2).1).data.toList = l then some ((digD s1).1, (digD s3).1, (widD (digD s3).2).1) else none := by
      first
        | (unfold parseD; rw [hb1]; done)
        | (unfold parseD; rw [hb1]; rfl)
    obtain ⟨L, hLe⟩ : ∃ L, (digD s1).1 = L := ⟨_, rfl⟩
    obtain ⟨s2, hs2⟩ : ∃ s2, (digD s1).2 = s2 := ⟨_, rfl⟩
    rw [hLe, hs2] at hpar
    rw [hLe, hs2] at hD1
    rw [hLe] at hn1
    rw [hs2] at hd1
    have h2 := fun w' => behind_any (btxt s2) sBar w'
    rw [btxt_list, show sBar.data.toList = lBar from rfl] at h2
    clear hLe hs2 hb1
    cases hb2 : bhD s2 lBar with
    | none =>
      rw [hb2] at h2 hpar
      simp only at h2 hpar
      have hp : parV l = .tuple #[tv 0 0 0, .int .i64 3] := by unfold parV; rw [hpar]
      rw [hp]
      unfold tv
      clear hL hB hs hl hlen hpar hp hb2 hn1 hl1 hd1
      replace h1 := Box.mk h1
      replace h2 := Box.mk h2
      replace hD1 := Box.mk hD1
      have hP0 := Box.mk (PS.new w (.int .i64 0) (.int .i64 0) (.int .i64 4))
      go_enter Tryd.func13, Tryd.ntmps13
      go_wp2_with fail
      refine (h1.out _).mono ?_
      rintro e w1 ⟨rfl, rfl⟩
      go_wp2_with fail
      refine (hD1.out _).mono ?_
      rintro e w2 ⟨rfl, hb⟩
      have hP1 := hP0.out.on hb
      clear hP0 hb
      obtain ⟨c0, c1, c2, f0, f1, f2, d0, d1, d2, g0, g1, g2⟩ := hP1.cells
      have hP2 := Box.mk (hP1.set0 (.int .i64 L))
      clear hP1 hD1 h1
      go_wp2_with fail
      refine (h2.out _).mono ?_
      rintro e w3 ⟨rfl, hw3⟩
      rw [hw3] at hP2
      clear hw3 c0 c1 c2 f0 f1 f2 d0 d1 d2 g0 g1 g2
      obtain ⟨c0, c1, c2, f0, f1, f2, d0, d1, d2, g0, g1, g2⟩ := hP2.out.cells
      go_wp2_with fail
      have hf := hP2.out.out (.int .i64 0) (.int .i64 0) (.int .i64 0)
      obtain ⟨wf, hwf⟩ : ∃ wf, PS.fin w w3 (.int .i64 0) (.int .i64 0) (.int .i64 0) = wf := ⟨_, rfl⟩
      rw [hwf] at hf
      unfold PS.fin at hwf
      rw [hwf]
      obtain ⟨k0, k1, k2, hbf⟩ := hf
      clear c0 c1 c2 f0 f1 f2 d0 d1 d2 g0 g1 g2 hwf
      refine bodyPost_ret (v := .tuple #[tv 0 0 0, .int .i64 3]) (by simp [results, Tryd.results13, go_sem, k0, k1, k2]; try rfl) rfl ⟨rfl, hbf⟩
    | some s3 =>
      rw [hb2] at h2 hpar
      simp only at h2 hpar
      have hl2 := bhD_len hb2
      have hD2 := fun w' => digits_any (btxt s3) w' (by rw [btxt_size]; omega)
      have hn2 := digD_int s3
      have hd2 := digD_len s3
      rw [btxt_list] at hD2
      obtain ⟨I, hIe⟩ : ∃ I, (digD s3).1 = I := ⟨_, rfl⟩
      obtain ⟨s4, hs4⟩ : ∃ s4, (digD s3).2 = s4 := ⟨_, rfl⟩
      rw [hIe, hs4] at hpar hD2
      rw [hIe] at hn2
      rw [hs4] at hd2
      have h3 := fun w' => behind_any (btxt s4) sPart w'
      rw [btxt_list, show sPart.data.toList = lPart from rfl] at h3
      have hwid : widD s4 = match bhD s4 lPart with
        | some p => digD p
        | none => (4, s4) := rfl
      clear hIe hs4 hb2
      have hP0 := Box.mk (PS.new w (.int .i64 0) (.int .i64 0) (.int .i64 4))
      -- the width that is read, and what is left behind it
      have hmid : ∃ W s5, widD s4 = (W, s5) ∧ -1 ≤ W ∧ W < 100000000000000 ∧ s5.length ≤ s4.length := by
        rw [hwid]
        cases hb3 : bhD s4 lPart with
        | none => exact ⟨4, s4, rfl, by decide, by decide, Nat.le_refl _⟩
        | some p => exact ⟨(digD p).1, (digD p).2, rfl, (digD_int p).1, (digD_int p).2, Nat.le_trans (digD_len p) (bhD_len hb3)⟩
      obtain ⟨W, s5, hWe, hW1, hW2, hl5⟩ := hmid
      rw [hWe] at hpar hwid
      simp only at hpar
      have hG : Box (∀ w', Below w.heap.size w w' → Calls Tryd.prog 11 #[tv L I W] w' fun e w2 => e = .returned (.string (pathT L I W)) ∧ Below w'.heap.size w' w2) := ⟨fun w' hb => dpath_any L I W B w' (hL.here hb hB) (Nat.le_trans hB hb.size)⟩
      unfold tv at hG
      obtain ⟨X, hX⟩ : ∃ X, pathT L I W = X := ⟨_, rfl⟩
      rw [hX] at hG hpar
      have hXs : (X.toList == s.toList) = decide (X.data.toList = l) := by
        rw [ByteArray.toList_eq, ByteArray.toList_eq, hl]
        by_cases h : X.data.toList = l <;> simp [h]
      have hp : parV l = if s5 = [] ∧ X.data.toList = l then .tuple #[tv L I W, .int .i64 0] else .tuple #[tv 0 0 0, .int .i64 3] := by
        unfold parV; rw [hpar]
        by_cases h : s5 = [] ∧ X.data.toList = l
        · rw [if_pos h, if_pos h]
        · rw [if_neg h, if_neg h]
      obtain ⟨V, hV⟩ : ∃ V, parV l = V := ⟨_, rfl⟩
      rw [hV] at hp ⊢
      have hV1 := Box.mk (fun (h1 : s5 = []) (h2 : X.data.toList = l) => hp.trans (if_pos ⟨h1, h2⟩))
      have hV2 := Box.mk (fun (h1 : s5 ≠ []) => hp.trans (if_neg fun h => h1 h.1))
      have hV3 := Box.mk (fun (h1 : X.data.toList ≠ l) => hp.trans (if_neg fun h => h1 h.2))
      have hE5 : s5 = [] → (btxt s5).toList = [] := fun h => by rw [ByteArray.toList_eq, btxt_list, h]
      have hN5 : s5 ≠ [] → ¬ (btxt s5).toList = [] := fun h => by rw [ByteArray.toList_eq, btxt_list]; exact h
      obtain ⟨T5, hT5⟩ : ∃ T5, btxt s5 = T5 := ⟨_, rfl⟩
      rw [hT5] at hE5 hN5
      have hXs1 : X.data.toList = l → (X.toList == s.toList) = true := fun h => by rw [hXs, h]; simp
      have hXs2 : X.data.toList ≠ l → (X.toList == s.toList) = false := fun h => by rw [hXs]; simpa using h
      have hsp : Box (∀ p, bhD s4 lPart = some p → (btxt p).size ≤ 140737488355328) := ⟨fun p h => by have := bhD_len h; rw [btxt_size]; omega⟩
      clear hL hB hs hl hlen hpar hp hn1 hl1 hd1 hn2 hl2 hd2 hX hWe hl5 hXs hV
      replace hXs1 := Box.mk hXs1
      replace hXs2 := Box.mk hXs2
      replace hE5 := Box.mk hE5
      replace hN5 := Box.mk hN5
      replace h1 := Box.mk h1
      replace h2 := Box.mk h2
      replace h3 := Box.mk h3
      replace hD1 := Box.mk hD1
      replace hD2 := Box.mk hD2
      go_enter Tryd.func13, Tryd.ntmps13
      go_wp2_with fail
      refine (h1.out _).mono ?_
      rintro e w1 ⟨rfl, rfl⟩
      go_wp2_with fail
      refine (hD1.out _).mono ?_
      rintro e w2 ⟨rfl, hb⟩
      have hP1 := hP0.out.on hb
      clear hP0 hb
      obtain ⟨c0, c1, c2, f0, f1, f2, d0, d1, d2, g0, g1, g2⟩ := hP1.cells
      have hP2 := Box.mk (hP1.set0 (.int .i64 L))
      clear hP1 hD1 h1
      go_wp2_with fail
      refine (h2.out _).mono ?_
      rintro e w3 ⟨rfl, hw3⟩
      rw [hw3] at hP2
      clear hw3 c0 c1 c2 f0 f1 f2 d0 d1 d2 g0 g1 g2
      go_wp2_with fail
      refine (hD2.out _).mono ?_
      rintro e w4 ⟨rfl, hb⟩
      have hP3 := hP2.out.on hb
      clear hP2 hb
      obtain ⟨c0, c1, c2, f0, f1, f2, d0, d1, d2, g0, g1, g2⟩ := hP3.cells
      have hP4 := Box.mk (hP3.set1 (.int .i64 I))
      clear hP3 hD2 h2
      go_wp2_with fail
      refine (h3.out _).mono ?_
      cases hb3 : bhD s4 lPart with
      | none =>
        rw [hb3] at hwid
        simp only at hwid
        injection hwid with e1 e2
        subst e1 e2
        rw [hT5]
        rintro e w6 ⟨rfl, hw6⟩
        rw [hw6] at hP4
        have hP5 := hP4
        clear hw6 hP4
        clear c0 c1 c2 f0 f1 f2 d0 d1 d2 g0 g1 g2
        obtain ⟨c0, c1, c2, f0, f1, f2, d0, d1, d2, g0, g1, g2⟩ := hP5.out.cells
        by_cases h5 : s5 = []
        · have hE := hE5.out h5
          have hG5 := hG.out w6 hP5.out.bel
          replace h5 := Box.mk h5
          go_wp2_with fail
          refine hG5.mono ?_
          rintro e w7 ⟨rfl, hb⟩
          have hP6 := Box.mk (hP5.out.on hb)
          clear hb hG5 c0 c1 c2 f0 f1 f2 d0 d1 d2 g0 g1 g2
          obtain ⟨c0, c1, c2, f0, f1, f2, d0, d1, d2, g0, g1, g2⟩ := hP6.out.cells
          by_cases hx : X.data.toList = l
          · have hx1 := hXs1.out hx
            replace hx := Box.mk hx
            go_wp2_with fail
            have hf := hP6.out.out (.int .i64 L) (.int .i64 I) (.int .i64 4)
            obtain ⟨wf, hwf⟩ : ∃ wf, PS.fin w w7 (.int .i64 L) (.int .i64 I) (.int .i64 4) = wf := ⟨_, rfl⟩
            rw [hwf] at hf
            unfold PS.fin at hwf
            rw [hwf]
            obtain ⟨k0, k1, k2, hbf⟩ := hf
            clear c0 c1 c2 f0 f1 f2 d0 d1 d2 g0 g1 g2 hwf
            refine bodyPost_ret (v := .tuple #[tv L I 4, .int .i64 0]) (by simp [results, Tryd.results13, go_sem, k0, k1, k2]; try rfl) rfl ⟨by rw [hV1.out h5.out hx.out], hbf⟩
          · have hx1 := hXs2.out hx
            replace hx := Box.mk hx
            go_wp2_with fail
            have hf := hP6.out.out (.int .i64 0) (.int .i64 0) (.int .i64 0)
            obtain ⟨wf, hwf⟩ : ∃ wf, PS.fin w w7 (.int .i64 0) (.int .i64 0) (.int .i64 0) = wf := ⟨_, rfl⟩
            rw [hwf] at hf
            unfold PS.fin at hwf
            rw [hwf]
            obtain ⟨k0, k1, k2, hbf⟩ := hf
            clear c0 c1 c2 f0 f1 f2 d0 d1 d2 g0 g1 g2 hwf
            refine bodyPost_ret (v := .tuple #[tv 0 0 0, .int .i64 3]) (by simp [results, Tryd.results13, go_sem, k0, k1, k2]; try rfl) rfl ⟨by rw [hV3.out hx.out], hbf⟩
        · have hE := hN5.out h5
          replace h5 := Box.mk h5
          go_wp2_with fail
          have hf := hP5.out.out (.int .i64 0) (.int .i64 0) (.int .i64 0)
          obtain ⟨wf, hwf⟩ : ∃ wf, PS.fin w w6 (.int .i64 0) (.int .i64 0) (.int .i64 0) = wf := ⟨_, rfl⟩
          rw [hwf] at hf
          unfold PS.fin at hwf
          rw [hwf]
          obtain ⟨k0, k1, k2, hbf⟩ := hf
          clear c0 c1 c2 f0 f1 f2 d0 d1 d2 g0 g1 g2 hwf
          refine bodyPost_ret (v := .tuple #[tv 0 0 0, .int .i64 3]) (by simp [results, Tryd.results13, go_sem, k0, k1, k2]; try rfl) rfl ⟨by rw [hV2.out h5.out], hbf⟩
      | some p =>
        rw [hb3] at hwid
        simp only at hwid
        rintro e w5 ⟨rfl, hw5⟩
        rw [hw5] at hP4
        clear hw5 c0 c1 c2 f0 f1 f2 d0 d1 d2 g0 g1 g2
        have hD3 := digits_any (btxt p) w5 (hsp.out p hb3)
        rw [btxt_list, ← hwid, hT5] at hD3
        simp only at hD3
        go_wp2_with fail
        refine hD3.mono ?_
        rintro e w6 ⟨rfl, hb⟩
        have hP6 := hP4.out.on hb
        clear hP4 hb hD3
        obtain ⟨c0, c1, c2, f0, f1, f2, d0, d1, d2, g0, g1, g2⟩ := hP6.cells
        have hP7 := Box.mk (hP6.set2 (.int .i64 W))
        obtain ⟨w7, hw7⟩ : ∃ w7, w6.setCell ⟨w.heap.size + 1, 2, none⟩ (.int .i64 W) = w7 := ⟨_, rfl⟩
        rw [hw7] at hP7
        clear hP6
        by_cases h5 : s5 = []
        · have hE := hE5.out h5
          replace h5 := Box.mk h5
          replace hw7 := Box.mk hw7
          go_wp2_with fail
          rw [hw7.out]
          clear hw7
          refine (hG.out w7 hP7.out.bel).mono ?_
          rintro e w8 ⟨rfl, hb⟩
          have hP6 := Box.mk (hP7.out.on hb)
          clear hb c0 c1 c2 f0 f1 f2 d0 d1 d2 g0 g1 g2
          obtain ⟨c0, c1, c2, f0, f1, f2, d0, d1, d2, g0, g1, g2⟩ := hP6.out.cells
          by_cases hx : X.data.toList = l
          · have hx1 := hXs1.out hx
            replace hx := Box.mk hx
            go_wp2_with fail
            have hf := hP6.out.out (.int .i64 L) (.int .i64 I) (.int .i64 W)
            obtain ⟨wf, hwf⟩ : ∃ wf, PS.fin w w8 (.int .i64 L) (.int .i64 I) (.int .i64 W) = wf := ⟨_, rfl⟩
            rw [hwf] at hf
            unfold PS.fin at hwf
            rw [hwf]
            obtain ⟨k0, k1, k2, hbf⟩ := hf
            clear c0 c1 c2 f0 f1 f2 d0 d1 d2 g0 g1 g2 hwf
            refine bodyPost_ret (v := .tuple #[tv L I W, .int .i64 0]) (by simp [results, Tryd.results13, go_sem, k0, k1, k2]; try rfl) rfl ⟨by rw [hV1.out h5.out hx.out], hbf⟩
          · have hx1 := hXs2.out hx
            replace hx := Box.mk hx
            go_wp2_with fail
            have hf := hP6.out.out (.int .i64 0) (.int .i64 0) (.int .i64 0)
            obtain ⟨wf, hwf⟩ : ∃ wf, PS.fin w w8 (.int .i64 0) (.int .i64 0) (.int .i64 0) = wf := ⟨_, rfl⟩
            rw [hwf] at hf
            unfold PS.fin at hwf
            rw [hwf]
            obtain ⟨k0, k1, k2, hbf⟩ := hf
            clear c0 c1 c2 f0 f1 f2 d0 d1 d2 g0 g1 g2 hwf
            refine bodyPost_ret (v := .tuple #[tv 0 0 0, .int .i64 3]) (by simp [results, Tryd.results13, go_sem, k0, k1, k2]; try rfl) rfl ⟨by rw [hV3.out hx.out], hbf⟩
        · have hE := hN5.out h5
          replace h5 := Box.mk h5
          replace hw7 := Box.mk hw7
          go_wp2_with fail
          rw [hw7.out]
          clear hw7
          have hf := hP7.out.out (.int .i64 0) (.int .i64 0) (.int .i64 0)
          obtain ⟨wf, hwf⟩ : ∃ wf, PS.fin w w7 (.int .i64 0) (.int .i64 0) (.int .i64 0) = wf := ⟨_, rfl⟩
          rw [hwf] at hf
          unfold PS.fin at hwf
          rw [hwf]
          obtain ⟨k0, k1, k2, hbf⟩ := hf
          clear c0 c1 c2 f0 f1 f2 d0 d1 d2 g0 g1 g2 hwf
          refine bodyPost_ret (v := .tuple #[tv 0 0 0, .int .i64 3]) (by simp [results, Tryd.results13, go_sem, k0, k1, k2]; try rfl) rfl ⟨by rw [hV2.out h5.out], hbf⟩
end Go.Proofs.YtlkopllpadhnlaaDoor

namespace Go.Proofs.YtlkopllpadhnlaaDoor
open Go Go.RowKit

def nodN (n L : Nat) : Nat := n / 4 ^ L
/-- A tile's width in a list of n, below 1 where it isn't there. -/
def widN (n L I : Nat) : Int := min 4 ((nodN n L : Int) - (I : Int) * 4)
theorem nodN_le (n L : Nat) : nodN n L ≤ n := Nat.div_le_self _ _
theorem pow4 (L : Nat) : (4 : Nat) ^ L = 2 ^ (2 * L) := by rw [show (4 : Nat) = 2 ^ 2 from rfl, ← Nat.pow_mul]
theorem shr_eq (n L : Nat) : ((n : Int) / 2 ^ (2 * L)) = ((nodN n L : Nat) : Int) := by
  unfold nodN
  rw [pow4, Int.natCast_ediv, Int.natCast_pow]
  rfl
set_option maxHeartbeats 800000 in
set_option maxRecDepth 100000 in
theorem nodes_any (n L : Nat) (w : World) (hL : L ≤ 31) :
    Calls Tryd.prog 36 #[.int .i64 (n : Int), .int .i64 (L : Int)] w fun e w' => e = .returned (.int .i64 (nodN n L : Int)) ∧ w = w' := by
  have hs := shr_eq n L
  go_enter Tryd.func36, Tryd.ntmps36
  go_wp2_with fail
  go_ret
  exact ⟨by rw [hs]; rfl, rfl⟩
set_option maxHeartbeats 800000 in
set_option maxRecDepth 100000 in
theorem dnodes_any (n L : Nat) (w : World) (hL : L ≤ 31) :
    Calls Tryd.prog 45 #[.int .i64 (n : Int), .int .i64 (L : Int)] w fun e w' => e = .returned (.int .i64 (nodN n L : Int)) ∧ w = w' := by
  have hs := shr_eq n L
  have hm : min (2 * (L : Int)) 62 = 2 * (L : Int) := by omega
  go_enter Tryd.func45, Tryd.ntmps45
  go_wp2_with fail
  go_ret
  exact ⟨by rw [hs]; rfl, rfl⟩
set_option maxHeartbeats 800000 in
set_option maxRecDepth 100000 in
/-- The first level, of any number. -/
theorem nodes_zero (n : Int) (w : World) :
    Calls Tryd.prog 36 #[.int .i64 n, .int .i64 0] w fun e w' => e = .returned (.int .i64 n) ∧ w = w' := by
  go_enter Tryd.func36, Tryd.ntmps36
  go_wp2_with fail
  go_ret
  exact ⟨by simp, rfl⟩
set_option maxHeartbeats 800000 in
set_option maxRecDepth 100000 in
theorem widest_any (n L I : Nat) (w : World) (hn : n < 9223372036854775808) (hL : L ≤ 31) (hI : I ≤ 1099511627776) :
    Calls Tryd.prog 37 #[.int .i64 (n : Int), .int .i64 (L : Int), .int .i64 (I : Int)] w fun e w' => e = .returned (tv L I (widN n L I)) ∧ Below w.heap.size w w' := by
  have hN := fun w' => nodes_any n L w' hL
  have hle := nodN_le n L
  have hw : widN n L I = min 4 ((nodN n L : Int) - (I : Int) * 4) := rfl
  obtain ⟨N, hNe⟩ : ∃ N, nodN n L = N := ⟨_, rfl⟩
  rw [hNe] at hN hle hw
  obtain ⟨W, hWe⟩ : ∃ W, widN n L I = W := ⟨_, rfl⟩
  rw [hWe] at hw ⊢
  unfold tv
  replace hw := hw.symm
  clear hNe hWe
  replace hN := Box.mk hN
  go_enter Tryd.func37, Tryd.ntmps37
  go_wp2_with fail
  refine (hN.out _).mono ?_
  rintro e w1 ⟨rfl, hw1⟩
  subst hw1
  go_wp2_with fail
  go_returns
  exact ⟨rfl, bel_alloc _ _⟩
set_option maxHeartbeats 800000 in
set_option maxRecDepth 100000 in
theorem dwidth_any (n L I : Nat) (w : World) (hn : n < 9223372036854775808) (hL : L ≤ 31) (hI : I ≤ 1099511627776) :
    Calls Tryd.prog 44 #[.int .i64 (n : Int), .int .i64 (L : Int), .int .i64 (I : Int)] w fun e w' => e = .returned (.int .i64 (max 0 (widN n L I))) ∧ w = w' := by
  have hN := fun w' => dnodes_any n L w' hL
  have hle := nodN_le n L
  have hw : min 4 ((nodN n L : Int) - 4 * (I : Int)) = widN n L I := by unfold widN; rw [Int.mul_comm]
  obtain ⟨N, hNe⟩ : ∃ N, nodN n L = N := ⟨_, rfl⟩
  rw [hNe] at hN hle hw
  obtain ⟨W, hWe⟩ : ∃ W, widN n L I = W := ⟨_, rfl⟩
  rw [hWe] at hw ⊢
  obtain ⟨M, hM⟩ : ∃ M, max 0 W = M := ⟨_, rfl⟩
  rw [hM]
  clear hNe hWe
  replace hN := Box.mk hN
  go_enter Tryd.func44, Tryd.ntmps44
  go_wp2_with fail
  refine (hN.out _).mono ?_
  rintro e w1 ⟨rfl, hw1⟩
  subst hw1
  go_wp2_with fail
  go_ret
  exact ⟨rfl, rfl⟩
theorem pow4_le (L : Nat) (h : L ≤ 30) : 4 ^ L ≤ 1152921504606846976 := Nat.le_trans (Nat.pow_le_pow_right (by decide) h) (by decide)
set_option maxHeartbeats 800000 in
set_option maxRecDepth 100000 in
theorem leavesN_any (L : Nat) (w : World) (hL : L ≤ 30) :
    Calls Tryd.prog 39 #[.int .i64 (L : Int)] w fun e w' => e = .returned (.int .i64 ((4 ^ L : Nat) : Int)) ∧ w = w' := by
  have h1 := pow4_le L hL
  have h2 : ((4 ^ L : Nat) : Int) = (2 : Int) ^ (2 * L) := by rw [pow4, Int.natCast_pow]; rfl
  have h3 : wrap64 ((2 : Int) ^ (2 * L)) = ((4 ^ L : Nat) : Int) := by
    rw [← h2]
    have := Nat.pow_pos (n := L) (show 0 < 4 by decide)
    generalize 4 ^ L = q at *
    unfold wrap64; omega
  clear h2
  go_enter Tryd.func39, Tryd.ntmps39
  go_wp2_with fail
  go_ret
  exact ⟨by simp [h3], rfl⟩
/-- In Leaves' loop. -/
structure LvT (w0 w : World) (i : Nat) (v : Value) : Prop where
  ex : ∃ l : List ByteArray, l.length = i ∧ (∀ x ∈ l, x.size = 32) ∧ TxR w0.heap.size w v l
  bel : Below w0.heap.size w0 w
/-- What Leaves answers: so many texts of 32 bytes. -/
def LeavesT (w : World) (n : Nat) (e : Ending) (w' : World) : Prop := ∃ v l, e = .returned v ∧ l.length = n ∧ (∀ x ∈ l, x.size = 32) ∧ TxR w.heap.size w' v l ∧ Below w.heap.size w w'
set_option maxHeartbeats 1600000 in
set_option maxRecDepth 100000 in
theorem leavesT_any (n : Nat) (w : World) (hn : n ≤ 1024) :
    Calls Tryd.prog 15 #[.int .i64 (n : Int)] w (LeavesT w n) := by
  have hS0 : Box (LvT w w 0 (.slice none 0 0)) := ⟨⟨⟨[], rfl, (fun x h => by cases h), TxR.nil _ _⟩, Below.refl _ _⟩⟩
  go_enter Tryd.func15, Tryd.ntmps15
  go_wp2_with fail
  go_loopw [3, 4, 6] (fun v3 _ v6 wr => ∃ i : Nat, i ≤ n ∧ v6 = .int .i64 (i : Int) ∧ Box (LvT w wr i v3)) (fun _ _ v6 _ => n - (intOf v6).toNat)
  case atStart => exact ⟨0, by omega, rfl, hS0⟩
  case round =>
    clear hS0
    obtain ⟨i, hi, rfl, hA⟩ := hrel
    obtain ⟨⟨l, hl, hsz, hT⟩, hB⟩ := hA.out
    clear hA
    by_cases hlt : i < n
    · obtain ⟨a, c, rfl⟩ := hT.shape
      rw [hl]
      replace hT := Box.mk hT
      replace hB := Box.mk hB
      replace hsz := Box.mk hsz
      have hcl : ∀ j, j < ([(i : Int) % 256, (i : Int) / 256] : List Int).length → (wr.alloc (.cells #[.int .u8 ((i : Int) % 256), .int .u8 ((i : Int) / 256)] 5)).cell? ⟨wr.heap.size, 0 + j, none⟩ = some (.int .u8 (([(i : Int) % 256, (i : Int) / 256] : List Int).getD j 0)) := fun j hj => by
        have k := Pk.Blk.new wr [.int .u8 ((i : Int) % 256), .int .u8 ((i : Int) / 256)] 5
        rw [Nat.zero_add, Pk.Blk.cell k j]
        match j, hj with
        | 0, _ => rfl
        | 1, _ => rfl
      have hcv := run_convert_bytes_arg (P := Tryd.prog) (wr.alloc (.cells #[.int .u8 ((i : Int) % 256), .int .u8 ((i : Int) / 256)] 5)) 75 5 Tryd.underlying75 Tryd.underlying5 wr.heap.size 0 2 2 [(i : Int) % 256, (i : Int) / 256] rfl hcl 9 Tryd.underlying9
      have hss : (strOfNums [(i : Int) % 256, (i : Int) / 256]).size = 2 := rfl
      obtain ⟨s, hs⟩ : ∃ s, strOfNums [(i : Int) % 256, (i : Int) / 256] = s := ⟨_, rfl⟩
      rw [hs] at hcv hss
      have hLf := fun w' => rleaf_any s w' (by omega)
      have hys := leafH_size s
      obtain ⟨y, hy⟩ : ∃ y, leafH s = y := ⟨_, rfl⟩
      rw [hy] at hLf hys
      clear hs hy hcl
      replace hLf := Box.mk hLf
      go_wp2_with fail
      refine (hLf.out _).mono ?_
      rintro e w1 ⟨rfl, hb1⟩
      clear hLf hcv
      have hb2 := mono_bel (bel_alloc wr _) hb1 (Nat.le_refl _)
      replace hT := Box.mk (hT.out.here hb2)
      replace hB := Box.mk (mono_bel hB.out hb2 (Nat.le_refl _))
      rw [hl] at hT
      replace hl := Box.mk hl
      clear hb1 hb2
      go_wp2_with (at_builtin; refine wpList_pushT rfl (.tmp 9) (.tmp 18) rfl w.heap.size _ l [y] rfl (hT.out.here (bel_alloc _ _)) (by have := hB.out.size; simp; omega) (some ⟨w1.heap.size, 0, none⟩) 1 1 rfl rfl (parts_new w1 [y] 9) (by rw [hl.out]; omega) ?_)
      rintro v2 w2 hp
      have hA2 : Box (LvT w w2 (i + 1) v2) := ⟨⟨⟨l ++ [y], by simp [hl.out], fun x hx => by
        rcases List.mem_append.1 hx with h | h
        · exact hsz.out x h
        · rw [List.mem_singleton.1 h]; exact hys, hp.row⟩, hp.bel (mono_bel hB.out (bel_alloc _ _) (Nat.le_refl _)) (hT.out.here (bel_alloc _ _))⟩⟩
      clear hp hT hB
      go_wp2_with fail
      exact ⟨⟨i + 1, by omega, by go_num, hA2⟩, by simp [intOf]; omega⟩
    · obtain rfl : i = n := by omega
      obtain ⟨a, c, rfl⟩ := hT.shape
      rw [hl] at hT ⊢
      replace hT := Box.mk hT
      replace hB := Box.mk hB
      go_wp2_with fail
      go_ret
      exact ⟨_, l, rfl, hl, hsz, hT.out, hB.out⟩
end Go.Proofs.YtlkopllpadhnlaaDoor
