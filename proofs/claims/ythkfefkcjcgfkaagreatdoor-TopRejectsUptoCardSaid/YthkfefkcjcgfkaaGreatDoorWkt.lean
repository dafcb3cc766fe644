/- TiA TiM TiB TiC TiPn TiPm, in one text, in a namespace of their own. -/
import Derived.Lib.TrailingZeros
import Derived.Shelf.Spec.TrailingZeros
import Derived.Lib.ItoaLen
import Derived.Lib.AtoiAllCases
import Derived.Lib.IndexMore
import Derived.Test.YthkfefkcjcgfkaaGreatDoorWtc
import Derived.Test.YthkfefkcjcgfkaaGreatDoorWtr
import Derived.Test.YthkfefkcjcgfkaaGreatDoorWb5
import Derived.Test.YthkfefkcjcgfkaaGreatDoorWb0
import Derived.Test.YthkfefkcjcgfkaaGreatDoorWl1
set_option linter.all false
/- What stands in the program's memory (three tables); decimal texts; a tile's path, of both; math/bits.TrailingZeros. -/
namespace Go.Proofs.YthkfefkcjcgfkaaGreatDoor.Ti
open Go Go.RowKit
theorem ba_ext {a b : ByteArray} (h : a.data.toList = b.data.toList) : a = b := ByteArray.ext (Array.ext' h)

/-- The library's table of bits, as its initialiser lays it. -/
def TIs (w : World) : Prop := TabAt 7 Lib.deBruijn64tab w
theorem TIs.lt {w : World} (h : TIs w) : 7 < w.heap.size := block_lt_of_cell (h 0 (by decide))
theorem TIs.below {B : Nat} {w w' : World} (h : TIs w) (hb : Below B w w') (hB : 7 < B) : TIs w' := fun i hi => by
  rw [hb.cell (p := ⟨7, i, none⟩) hB]; exact h i hi
set_option maxHeartbeats 800000 in
set_option maxRecDepth 100000 in
theorem tz64_any (x : Nat) (hx0 : x ≠ 0) (hx : x < 18446744073709551616) (w : World) (hT : TIs w) :
    Calls Tryz.prog 155 #[.int .u64 (x : Int)] w fun e w' => e = .returned (.int .i64 (Lib.ctz 64 x : Int)) ∧ w = w' := by
  obtain ⟨hlow, hk⟩ := Lib.lowest_bit 64 x hx0 hx
  obtain ⟨hi, htab⟩ := Lib.deBruijn64_at _ hk
  have hcell := hT _ hi
  rw [htab] at hcell
  have key := tz64_key x _ hx hx0 hlow
  obtain ⟨idx, hidx⟩ : ∃ i, 2 ^ Lib.ctz 64 x * 285870213051353865 % 18446744073709551616 / 288230376151711744 = i := ⟨_, rfl⟩
  rw [hidx] at key hcell hi
  obtain ⟨k, hkk⟩ : ∃ k, Lib.ctz 64 x = k := ⟨_, rfl⟩
  rw [hkk] at hk hcell ⊢
  have hne : ((x : Int) == 0) = false := by simp; omega
  clear hlow htab hidx hkk hT
  go_enter Tryz.func155, Tryz.ntmps155
  go_wp2_with (simp only [key])
  go_returns
  exact ⟨rfl, rfl⟩
theorem tz_any (x : Nat) (hx0 : x ≠ 0) (hx : x < 18446744073709551616) (w : World) (hT : TIs w) :
    Calls Tryz.prog 147 #[.int .u64 (x : Int)] w fun e w' => e = .returned (.int .i64 (Lib.ctz 64 x : Int)) ∧ w = w' := by
  have h1 := tz64_any x hx0 hx w hT
  go_enter Tryz.func147, Tryz.ntmps147
  go_wp2_with fail
  refine h1.mono ?_
  rintro e w1 ⟨rfl, rfl⟩
  go_wp2_with fail
  go_returns
  exact ⟨rfl, rfl⟩
/-- What stands in memory below B, whatever comes. -/
structure Ld (B : Nat) (w : World) : Prop where
  kis : KIs w
  tis : TIs w
  pis : ∀ w', Below B w w' → Lib.TabIs Tryz.prog w' "internal/strconv.uint64pow10" .u64 Lib.pow10Tab
  g1 : 8 < B
  g2 : 7 < B
theorem Ld.below {B : Nat} {w w' : World} (h : Ld B w) (hb : Below B w w') : Ld B w' :=
  ⟨h.kis.below hb h.g1, h.tis.below hb h.g2, fun w2 hb2 => h.pis w2 (hb.trans hb2), h.g1, h.g2⟩
theorem Ld.here {B : Nat} {w w' : World} (h : Ld B w) (hb : Below w.heap.size w w') (hB : B ≤ w.heap.size) : Ld B w' := h.below (hb.mono hB)
/-- A number's decimal digits. -/
def txN (n : Int) : ByteArray := ⟨(Lib.itoa n).toArray⟩
theorem bel_grow (w : World) (k : Nat) (os : Array Obj) : Below w.heap.size w (Sort.grow (w.drewN k) os) :=
  ⟨rfl, rfl, rfl, by simp [Sort.grow], fun j hj => by simp [Sort.grow, Array.getElem?_append, hj]⟩
theorem itoa_any (n : Int) (B : Nat) (w : World) (hL : Ld B w) (h0 : -9223372036854775808 ≤ n) (h1 : n ≤ 9223372036854775807) :
    Calls Tryz.prog 24 #[.int .i64 n] w fun e w' => e = .returned (.string (txN n)) ∧ Below w.heap.size w w' :=
  (Tryz.strconv_Itoa n h0 h1 w (hL.pis w (Below.refl _ _))).mono fun e w' => by
    rintro ⟨rfl, k, os, rfl⟩
    exact ⟨rfl, bel_grow w k os⟩
theorem txN_size (n : Int) (h0 : 0 ≤ n) (h1 : n ≤ 9223372036854775807) : (txN n).size ≤ 21 := Lib.itoa_length_le n (by omega) h1
/-- Has a tile a path? -/
def okT (L I W : Int) : Bool := decide (0 ≤ L) && decide (L ≤ 30) && decide (0 ≤ I) && decide (I ≤ 1099511627776) && decide (1 ≤ W) && decide (W ≤ 4)
theorem okT_iff {L I W : Int} : okT L I W = true ↔ 0 ≤ L ∧ L ≤ 30 ∧ 0 ≤ I ∧ I ≤ 1099511627776 ∧ 1 ≤ W ∧ W ≤ 4 := by unfold okT; simp [and_assoc]
def sTile : ByteArray := ⟨#[116, 105, 108, 101, 47]⟩
def sBar : ByteArray := ⟨#[47]⟩
def sPart : ByteArray := ⟨#[46, 112, 47]⟩
def pathT (L I W : Int) : ByteArray := if okT L I W = true then (if W < 4 then sTile ++ txN L ++ sBar ++ txN I ++ (sPart ++ txN W) else sTile ++ txN L ++ sBar ++ txN I) else ByteArray.empty
def tv (L I W : Int) : Value := .agg #[.int .i64 L, .int .i64 I, .int .i64 W]
set_option maxHeartbeats 800000 in
set_option maxRecDepth 100000 in
theorem good_any (L I W : Int) (w : World) :
    Calls Tryz.prog 48 #[tv L I W] w fun e w' => e = .returned (.bool (okT L I W)) ∧ Below w.heap.size w w' := by
  unfold tv okT
  have hb := Box.mk (bel_alloc w (.cells #[.int .i64 L, .int .i64 I, .int .i64 W] 51))
  go_enter Tryz.func48, Tryz.ntmps48
  go_wp2_with fail
  all_goals (go_ret; refine ⟨?_, hb.out⟩; simp [*] <;> omega)
/-- A box of three cells that stays. -/
def Box3 (b : Nat) (x y z : Value) (w : World) : Prop := ∀ w', Below w.heap.size w w' → w'.cell? ⟨b, 0, none⟩ = some x ∧ w'.cell? ⟨b, 1, none⟩ = some y ∧ w'.cell? ⟨b, 2, none⟩ = some z
theorem Box3.of {b : Nat} {x y z : Value} {t : TypeId} {w w1 : World} (hb : w.heap.size = b) (h : Below (w.alloc (.cells #[x, y, z] t)).heap.size (w.alloc (.cells #[x, y, z] t)) w1) : Box3 b x y z w1 := fun w' h' => by
  subst hb
  have k : Pk.Blk w' w.heap.size [x, y, z] t := ((h.trans (h'.mono h.size)).block _ (by simp)).trans (Pk.Blk.new w _ _)
  exact ⟨k.cell 0, k.cell 1, k.cell 2⟩
/-- strconv.Itoa of each number of a tile that has a path. -/
def Ito (L I W : Int) (w : World) : Prop := ∀ (n : Int), n = L ∨ n = I ∨ n = W → ∀ w', Below w.heap.size w w' → Calls Tryz.prog 24 #[.int .i64 n] w' fun e w2 => e = .returned (.string (txN n)) ∧ Below w'.heap.size w' w2
theorem ito (L I W : Int) (B : Nat) (w : World) (hL : Ld B w) (hB : B ≤ w.heap.size) (h : okT L I W = true) : Ito L I W w := fun n hn w' hb => by
  have := okT_iff.1 h
  exact itoa_any n B w' (hL.here hb hB) (by rcases hn with rfl | rfl | rfl <;> omega) (by rcases hn with rfl | rfl | rfl <;> omega)
theorem Ito.on {L I W : Int} {w w' : World} (h : Ito L I W w) (hb : Below w.heap.size w w') : Ito L I W w' := fun n hn w2 h2 => h n hn w2 (mono_bel hb h2 (Nat.le_refl _))
set_option maxHeartbeats 1600000 in
set_option maxRecDepth 100000 in
theorem path_any (L I W : Int) (B : Nat) (w : World) (hL : Ld B w) (hB : B ≤ w.heap.size) :
    Calls Tryz.prog 13 #[tv L I W] w fun e w' => e = .returned (.string (pathT L I W)) ∧ Below w.heap.size w w' := by
  have hbx := bel_alloc w (.cells #[.int .i64 L, .int .i64 I, .int .i64 W] 51)
  have hG := good_any L I W (w.alloc (.cells #[.int .i64 L, .int .i64 I, .int .i64 W] 51))
  have hI := ito L I W B w hL hB
  have hc := fun w1 h => Box3.of (x := .int .i64 L) (y := .int .i64 I) (z := .int .i64 W) (t := 51) (w := w) (w1 := w1) rfl h
  unfold pathT
  unfold tv at *
  clear hL hB
  replace hI := Box.mk hI
  replace hc := Box.mk hc
  replace hbx := Box.mk hbx
  cases ho : okT L I W with
  | false =>
    rw [ho] at hG
    clear ho
    go_enter Tryz.func13, Tryz.ntmps13
    go_wp2_with fail
    refine hG.mono ?_
    clear hG
    rintro e w1 ⟨rfl, hb1⟩
    replace hb1 := Box.mk hb1
    go_wp2_with fail
    go_ret
    exact ⟨rfl, mono_bel hbx.out hb1.out (Nat.le_refl _)⟩
  | true =>
    rw [ho] at hG
    have hsz : Box ((txN L).size ≤ 21 ∧ (txN I).size ≤ 21 ∧ (txN W).size ≤ 21) := ⟨by have := okT_iff.1 ho; exact ⟨txN_size L (by omega) (by omega), txN_size I (by omega) (by omega), txN_size W (by omega) (by omega)⟩⟩
    go_enter Tryz.func13, Tryz.ntmps13
    go_wp2_with fail
    refine hG.mono ?_
    clear hG
    rintro e w1 ⟨rfl, hb1⟩
    have hc1 := Box.mk (hc.out w1 hb1)
    have hI1 := Box.mk ((hI.out ho).on (mono_bel (bel_alloc w (.cells #[.int .i64 L, .int .i64 I, .int .i64 W] 51)) hb1 (Nat.le_refl _)))
    have hb1' := Box.mk (mono_bel hbx.out hb1 (Nat.le_refl _))
    clear hc hI hb1 hbx
    go_wp2_with fail
    refine region_quiet (fun w' => Below w1.heap.size w1 w') (by kernel_rfl) (by kernel_rfl) (dB _) ?_
    repeat (go_big_quiet_step (first | exact fun _ => rfl | rfl))
    refine quiet_val rfl (.int .i64 L) (fun w' hw' => by have h3 := (hc1.out w' hw').1; go_simp) ?_
    simp only [Act.put, List.setIfInBounds_toArray, List.set_cons_succ, List.set_cons_zero]
    repeat (go_big_quiet_step (first | exact fun _ => rfl | rfl))
    refine quiet_call rfl (.string (txN L)) (fun w' hw' => bel_call (hI1.out L (.inl rfl) w' hw') hw') (fun w' _ => by go_simp) ?_
    simp only [Act.put, List.setIfInBounds_toArray, List.set_cons_succ, List.set_cons_zero]
    repeat (go_big_quiet_step (first | exact fun _ => rfl | rfl))
    refine quiet_val rfl (.string (sTile ++ txN L)) (fun w' _ => by unfold sTile; go_simp; have := hsz.out.1; omega) ?_
    simp only [Act.put, List.setIfInBounds_toArray, List.set_cons_succ, List.set_cons_zero]
    repeat (go_big_quiet_step (first | exact fun _ => rfl | rfl))
    refine quiet_val rfl (.string (sTile ++ txN L ++ sBar)) (fun w' _ => by unfold sBar; go_simp; have := hsz.out.1; rw [show sTile.size = 5 from rfl]; omega) ?_
    simp only [Act.put, List.setIfInBounds_toArray, List.set_cons_succ, List.set_cons_zero]
    repeat (go_big_quiet_step (first | exact fun _ => rfl | rfl))
    refine quiet_val rfl (.int .i64 I) (fun w' hw' => by have h3 := (hc1.out w' hw').2.1; go_simp) ?_
    simp only [Act.put, List.setIfInBounds_toArray, List.set_cons_succ, List.set_cons_zero]
    repeat (go_big_quiet_step (first | exact fun _ => rfl | rfl))
    refine quiet_call rfl (.string (txN I)) (fun w' hw' => bel_call (hI1.out I (.inr (.inl rfl)) w' hw') hw') (fun w' _ => by go_simp) ?_
    simp only [Act.put, List.setIfInBounds_toArray, List.set_cons_succ, List.set_cons_zero]
    repeat (go_big_quiet_step (first | exact fun _ => rfl | rfl))
    refine quiet_val rfl (.string (sTile ++ txN L ++ sBar ++ txN I)) (fun w' _ => by go_simp; have := hsz.out; rw [show sTile.size = 5 from rfl, show sBar.size = 1 from rfl]; omega) ?_
    simp only [Act.put, List.setIfInBounds_toArray, List.set_cons_succ, List.set_cons_zero]
    repeat (go_big_quiet_step (first | exact fun _ => rfl | rfl))
    refine wpQuiet_nil ?_
    intro w2 hw2
    have hb2 := Box.mk (mono_bel hb1'.out hw2 (Nat.le_refl _))
    have hI2 := Box.mk (hI1.out.on hw2)
    obtain ⟨k0, k1, k2⟩ := hc1.out w2 hw2
    have hP : (sTile ++ txN L ++ sBar ++ txN I).size ≤ 60 := by
      have := hsz.out
      rw [ByteArray.size_append, ByteArray.size_append, ByteArray.size_append, show sTile.size = 5 from rfl, show sBar.size = 1 from rfl]; omega
    have hW := hsz.out.2.2
    obtain ⟨P, hPe⟩ : ∃ P, sTile ++ txN L ++ sBar ++ txN I = P := ⟨_, rfl⟩
    have hI3 := hI2.out W (.inr (.inr rfl)) w2 (Below.refl _ _)
    obtain ⟨T, hT⟩ : ∃ T, txN W = T := ⟨_, rfl⟩
    rw [hPe] at hP ⊢
    rw [hT] at hI3 hW
    replace hPe := Box.mk hPe
    replace hT := Box.mk hT
    clear hI1 hc1 hw2 hb1' hI2 hsz
    by_cases hlt : W < 4
    · go_wp2_with fail
      refine hI3.mono ?_
      clear hI3
      rintro e w3 ⟨rfl, hb3⟩
      replace hb3 := Box.mk hb3
      go_wp2_with fail
      go_ret
      exact ⟨by rw [hPe.out, hT.out]; rfl, mono_bel hb2.out hb3.out (Nat.le_refl _)⟩
    · clear hI3
      go_wp2_with fail
      go_ret
      exact ⟨by rw [hPe.out]; rfl, hb2.out⟩
end Go.Proofs.YthkfefkcjcgfkaaGreatDoor.Ti


/- Paths of tiles, on lists: decimal digits read back; what the document reads out of a text. -/
namespace Go.Proofs.YthkfefkcjcgfkaaGreatDoor.Ti
open Go Go.RowKit

def isD (c : UInt8) : Bool := decide (48 ≤ c) && decide (c ≤ 57)
/-- How many digits stand at the front, at most so many. -/
def cntD : Nat → List UInt8 → Nat
  | f + 1, c :: r => if isD c then cntD f r + 1 else 0
  | _, _ => 0
def valD (l : List UInt8) : Nat := l.foldl (fun n c => 10 * n + (c.toNat - 48)) 0
theorem valD_snoc (l : List UInt8) (c : UInt8) : valD (l ++ [c]) = 10 * valD l + (c.toNat - 48) := by unfold valD; rw [List.foldl_append]; rfl
theorem cntD_app : ∀ (a b : List UInt8) (f : Nat), (∀ c ∈ a, isD c = true) → a.length ≤ f → (∀ c r, b = c :: r → isD c = false) → cntD f (a ++ b) = a.length
  | [], b, f, _, _, hb => by
    cases f with
    | zero => rfl
    | succ f =>
      cases b with
      | nil => rfl
      | cons c r => rw [List.nil_append, cntD, if_neg (by simp [hb c r rfl])]; rfl
  | c :: a, b, 0, _, hf, _ => by simp at hf
  | c :: a, b, f + 1, ha, hf, hb => by
    rw [List.cons_append, cntD, if_pos (ha c (by simp)), cntD_app a b f (fun x hx => ha x (by simp [hx])) (by simpa using hf) hb]; rfl
theorem dig_of (u : Nat) (h : u < 10) : isD (UInt8.ofNat (48 + u)) = true ∧ (UInt8.ofNat (48 + u)).toNat = 48 + u := by
  have : ∀ u : Fin 10, isD (UInt8.ofNat (48 + u.val)) = true ∧ (UInt8.ofNat (48 + u.val)).toNat = 48 + u.val := by decide
  exact this ⟨u, h⟩
theorem dec_dig (u : Nat) : (∀ c ∈ Lib.decDigits u, isD c = true) ∧ valD (Lib.decDigits u) = u ∧ (u ≠ 0 → ∀ c r, Lib.decDigits u = c :: r → c ≠ 48) ∧ Lib.decDigits u ≠ [] := by
  induction u using Nat.strongRecOn with
  | ind u ih =>
    by_cases h : u < 10
    · obtain ⟨h1, h2⟩ := dig_of u h
      rw [Lib.decDigits, dif_pos h]
      refine ⟨fun c hc => by rw [List.mem_singleton.1 hc]; exact h1, by show 10 * 0 + ((UInt8.ofNat (48 + u)).toNat - 48) = u; rw [h2]; omega, fun h0 c r e hc => ?_, by simp⟩
      injection e with e1 e2
      rw [hc] at e1
      have := congrArg UInt8.toNat e1
      rw [h2] at this
      simp at this; omega
    · obtain ⟨i1, i2, i3, i4⟩ := ih (u / 10) (by omega)
      obtain ⟨h1, h2⟩ := dig_of (u % 10) (by omega)
      rw [Lib.decDigits, dif_neg h]
      refine ⟨fun c hc => ?_, by rw [valD_snoc, i2, h2]; omega, fun h0 c r e => ?_, by simp⟩
      · rcases List.mem_append.1 hc with hc | hc
        · exact i1 c hc
        · rw [List.mem_singleton.1 hc]; exact h1
      · cases hd : Lib.decDigits (u / 10) with
        | nil => exact absurd hd i4
        | cons c2 r2 =>
          rw [hd] at e
          injection e with e1 e2
          rw [← e1]
          exact i3 (by omega) c2 r2 hd
theorem dec_len : ∀ (k u : Nat), 1 ≤ k → u < 10 ^ k → (Lib.decDigits u).length ≤ k
  | 0, _, h, _ => by omega
  | k + 1, u, _, h => by
    rw [Lib.decDigits]
    split
    · simp
    · next h10 =>
      have hk : 1 ≤ k := by
        rcases Nat.eq_zero_or_pos k with h0 | h0
        · subst h0; simp at h; omega
        · exact h0
      have := dec_len k (u / 10) hk (by rw [Nat.pow_succ] at h; omega)
      simp; omega
/-- What the document's digits answers. -/
def digD (l : List UInt8) : Int × List UInt8 := if cntD 14 l = 0 ∨ l.getD 0 0 = 48 ∧ 1 < cntD 14 l then (-1, []) else ((valD (l.take (cntD 14 l)) : Int), l.drop (cntD 14 l))
theorem digD_dec (u : Nat) (hu : u ≤ 1099511627776) (b : List UInt8) (hb : ∀ c r, b = c :: r → isD c = false) : digD (Lib.decDigits u ++ b) = ((u : Int), b) := by
  obtain ⟨h1, h2, h3, h4⟩ := dec_dig u
  have hl := dec_len 13 u (by decide) (by omega)
  unfold digD
  rw [cntD_app _ b 14 h1 (by omega) hb, if_neg, List.take_left' rfl, List.drop_left' rfl, h2]
  rintro (h | ⟨h, h'⟩)
  · exact h4 (List.length_eq_zero_iff.1 h)
  · cases hd : Lib.decDigits u with
    | nil => exact h4 hd
    | cons c r =>
      rw [hd] at h h'
      have hc : c = 48 := by simpa using h
      by_cases h0 : u = 0
      · subst h0
        rw [show Lib.decDigits 0 = [48] from by rw [Lib.decDigits]; rfl] at hd
        injection hd with e1 e2
        rw [← e2] at h'
        simp at h'
      · exact h3 h0 c r hd hc
/-- What stands behind a beginning. -/
def bhD (l p : List UInt8) : Option (List UInt8) := if l.take p.length = p then some (l.drop p.length) else none
theorem bhD_app (p b : List UInt8) : bhD (p ++ b) p = some b := by unfold bhD; simp
def lTile : List UInt8 := [116, 105, 108, 101, 47]
def lBar : List UInt8 := [47]
def lPart : List UInt8 := [46, 112, 47]
/-- The width, and what is left. -/
def widD (l : List UInt8) : Int × List UInt8 := match bhD l lPart with
  | some p => digD p
  | none => (4, l)
/-- What the document reads out of a text. -/
def parseD (l : List UInt8) : Option (Int × Int × Int) := match bhD l lTile with
  | none => none
  | some s1 => match bhD (digD s1).2 lBar with
    | none => none
    | some s3 => if (widD (digD s3).2).2 = [] ∧ (pathT (digD s1).1 (digD s3).1 (widD (digD s3).2).1).data.toList = l then some ((digD s1).1, (digD s3).1, (widD (digD s3).2).1) else none
theorem app_list (a b : ByteArray) : (a ++ b).data.toList = a.data.toList ++ b.data.toList := by simp [ByteArray.data_append]
theorem txN_list (n : Nat) : (txN (n : Int)).data.toList = Lib.decDigits n := by unfold txN; rw [Lib.itoa_nonneg]
theorem path_list (L I W : Nat) (h : okT L I W = true) : (pathT L I W).data.toList = lTile ++ (Lib.decDigits L ++ (lBar ++ (Lib.decDigits I ++ (if W < 4 then lPart ++ Lib.decDigits W else [])))) := by
  unfold pathT
  rw [if_pos h]
  by_cases hw : W < 4
  · rw [if_pos (by omega), if_pos hw]
    simp only [app_list, txN_list, List.append_assoc]
    rfl
  · rw [if_neg (by omega), if_neg hw]
    simp only [app_list, txN_list, List.append_assoc, List.append_nil]
    rfl
theorem nats {L I W : Int} (h : okT L I W = true) : ∃ l i w : Nat, L = l ∧ I = i ∧ W = w ∧ l ≤ 30 ∧ i ≤ 1099511627776 ∧ 1 ≤ w ∧ w ≤ 4 := by
  have := okT_iff.1 h
  exact ⟨L.toNat, I.toNat, W.toNat, by omega, by omega, by omega, by omega, by omega, by omega, by omega⟩
/-- A path is read as its tile. -/
theorem parse_path (L I W : Int) (h : okT L I W = true) : parseD (pathT L I W).data.toList = some (L, I, W) := by
  obtain ⟨l, i, w, rfl, rfl, rfl, hl, hi, hw1, hw4⟩ := nats h
  have hp := path_list l i w h
  obtain ⟨P, hP⟩ : ∃ P, (pathT l i w).data.toList = P := ⟨_, rfl⟩
  have hd1 : digD (Lib.decDigits l ++ (lBar ++ (Lib.decDigits i ++ (if w < 4 then lPart ++ Lib.decDigits w else [])))) = ((l : Int), lBar ++ (Lib.decDigits i ++ (if w < 4 then lPart ++ Lib.decDigits w else []))) :=
    digD_dec l (by omega) _ (by rintro c r e; injection e with e1 e2; rw [← e1]; decide)
  have hd2 : digD (Lib.decDigits i ++ (if w < 4 then lPart ++ Lib.decDigits w else [])) = ((i : Int), if w < 4 then lPart ++ Lib.decDigits w else []) :=
    digD_dec i (by omega) _ (by
      rintro c r e
      split at e
      · injection e with e1 e2; rw [← e1]; decide
      · cases e)
  have hd3 : widD (if w < 4 then lPart ++ Lib.decDigits w else []) = ((w : Int), []) := by
    unfold widD
    by_cases h4 : w < 4
    · rw [if_pos h4, bhD_app]
      have := digD_dec w (by omega) [] (by rintro c r e; cases e)
      rw [List.append_nil] at this
      exact this
    · rw [if_neg h4]
      have : w = 4 := by omega
      subst this
      rfl
  have hb1 : bhD P lTile = some (Lib.decDigits l ++ (lBar ++ (Lib.decDigits i ++ (if w < 4 then lPart ++ Lib.decDigits w else [])))) := by rw [← hP, hp, bhD_app]
  have hb2 : bhD (lBar ++ (Lib.decDigits i ++ (if w < 4 then lPart ++ Lib.decDigits w else []))) lBar = some (Lib.decDigits i ++ (if w < 4 then lPart ++ Lib.decDigits w else [])) := bhD_app _ _
  rw [hP]
  unfold parseD
  rw [hb1]
  simp only
  rw [hd1]
  simp only
  rw [hb2]
  simp only
  rw [hd2]
  simp only
  rw [hd3]
  simp only
  rw [if_pos ⟨by trivial, hP⟩]
/-- What is read has the text as its path. -/
theorem parse_some {l : List UInt8} {L I W : Int} (h : parseD l = some (L, I, W)) : (pathT L I W).data.toList = l ∧ okT L I W = true := by
  have h1 : (pathT L I W).data.toList = l ∧ l ≠ [] := by
    unfold parseD at h
    cases hb : bhD l lTile with
    | none => rw [hb] at h; cases h
    | some s1 =>
      have hl : l ≠ [] := by rintro rfl; simp [bhD, lTile] at hb
      rw [hb] at h
      simp only at h
      cases hb2 : bhD (digD s1).2 lBar with
      | none => rw [hb2] at h; cases h
      | some s3 =>
        rw [hb2] at h
        simp only at h
        split at h
        · next hc =>
          injection h with h
          injection h with e1 h
          injection h with e2 e3
          rw [e1, e2, e3] at hc
          exact ⟨hc.2, hl⟩
        · cases h
  refine ⟨h1.1, ?_⟩
  cases ho : okT L I W with
  | true => rfl
  | false =>
    exfalso
    refine h1.2 ?_
    rw [← h1.1]
    unfold pathT
    rw [ho]
    rfl
end Go.Proofs.YthkfefkcjcgfkaaGreatDoor.Ti


/- The document's behind, digits. -/
namespace Go.Proofs.YthkfefkcjcgfkaaGreatDoor.Ti
open Go Go.RowKit

def btxt (l : List UInt8) : ByteArray := ⟨l.toArray⟩
end Go.Proofs.YthkfefkcjcgfkaaGreatDoor.Ti


/- The document's Parse. -/
namespace Go.Proofs.YthkfefkcjcgfkaaGreatDoor.Ti
open Go Go.RowKit

/-- The answer is stored. -/
theorem tl_eq (a b : ByteArray) : (a.toList == b.toList) = decide (a = b) := by
  by_cases h : a = b
  · subst h; simp
  · have : ¬ a.toList = b.toList := fun e => h (ba_ext (by rw [← ByteArray.toList_eq, ← ByteArray.toList_eq]; exact e))
    simp [h, this]
def psFin (w0 w : World) (a b c : Value) : World := ((w.setCell ⟨w0.heap.size, 0, none⟩ a).setCell ⟨w0.heap.size, 1, none⟩ b).setCell ⟨w0.heap.size, 2, none⟩ c
/-- What Parse answers. -/
def parV (l : List UInt8) : Value := match parseD l with
  | some (L, I, W) => .tuple #[tv L I W, .int .i64 0]
  | none => .tuple #[tv 0 0 0, .int .i64 3]
theorem btxt_list (l : List UInt8) : (btxt l).data.toList = l := rfl
theorem btxt_size (l : List UInt8) : (btxt l).size = l.length := rfl
theorem bhD_len {l p r : List UInt8} (h : bhD l p = some r) : r.length ≤ l.length := by
  unfold bhD at h
  split at h
  · injection h with h; rw [← h, List.length_drop]; omega
  · cases h
end Go.Proofs.YthkfefkcjcgfkaaGreatDoor.Ti


/- Paths, on lists: what the program reads out of a text is what the document reads. -/
namespace Go.Proofs.YthkfefkcjcgfkaaGreatDoor.Ti
open Go Go.RowKit

def valA (acc : Nat) (l : List UInt8) : Nat := l.foldl (fun n c => 10 * n + (c.toNat - 48)) acc
theorem valA_ge : ∀ (l : List UInt8) (acc : Nat), acc ≤ valA acc l
  | [], _ => Nat.le_refl _
  | c :: r, acc => by
    have := valA_ge r (10 * acc + (c.toNat - 48))
    show acc ≤ valA (10 * acc + (c.toNat - 48)) r
    omega
theorem isD_nat {c : UInt8} (h : isD c = true) : 48 ≤ c.toNat ∧ c.toNat ≤ 57 := by
  unfold isD at h
  simpa [UInt8.le_iff_toNat_le] using h
theorem pu_dig : ∀ (l : List UInt8) (acc : Nat), (∀ c ∈ l, isD c = true) → valA acc l < 1844674407370955162 → Lib.parseUint10 acc l = .ok (valA acc l)
  | [], _, _, _ => rfl
  | c :: r, acc, hd, hv => by
    have hc := isD_nat (hd c (by simp))
    have hv' : valA (10 * acc + (c.toNat - 48)) r < 1844674407370955162 := hv
    have hg := valA_ge r (10 * acc + (c.toNat - 48))
    rw [Lib.parseUint10, if_pos hc, if_neg (by omega), if_neg (by omega), show acc * 10 + (c.toNat - 48) = 10 * acc + (c.toNat - 48) by omega, pu_dig r _ (fun x hx => hd x (by simp [hx])) hv']
    rfl
theorem atoi_dec (u : Nat) (hu : u ≤ 1099511627776) : Lib.atoiAll (Lib.decDigits u) = .ok (u : Int) := by
  obtain ⟨h1, h2, _, h4⟩ := dec_dig u
  have hp : Lib.parseMag (Lib.decDigits u) = .ok u := by
    unfold Lib.parseMag
    rw [if_neg h4, pu_dig _ 0 h1 (by show valD _ < _; rw [h2]; omega)]
    show Lib.NumEnd.ok (valD _) = _
    rw [h2]
  cases hd : Lib.decDigits u with
  | nil => exact absurd hd h4
  | cons c r =>
    have hc := isD_nat (h1 c (by rw [hd]; simp))
    rw [Lib.atoiAll_plain c r (by omega) (by omega), ← hd, hp]
    show (if 9223372036854775808 ≤ u then Lib.NumEnd.range else Lib.NumEnd.ok (u : Int)) = _
    rw [if_neg (by omega)]
theorem index_at : ∀ (a : List UInt8) (c : UInt8) (p r : List UInt8), (∀ x ∈ a, x ≠ c) → Lib.index (a ++ (c :: p ++ r)) (c :: p) = (a.length : Int)
  | [], c, p, r, _ => by
    show Lib.index (c :: (p ++ r)) (c :: p) = 0
    have : (c :: p).isPrefixOf (c :: (p ++ r)) = true := by simp [List.isPrefixOf_iff_prefix]
    unfold Lib.index
    rw [if_pos this]
  | x :: a, c, p, r, h => by
    have hx := h x (by simp)
    have ih := index_at a c p r fun y hy => h y (by simp [hy])
    have : (c :: p).isPrefixOf (x :: (a ++ (c :: p ++ r))) = false := by simp [List.isPrefixOf, Ne.symm hx]
    rw [List.cons_append]
    unfold Lib.index
    rw [this, ih]
    have h1 : ((a.length : Int) == -1) = false := by
      cases h : ((a.length : Int) == -1)
      · rfl
      · have := eq_of_beq h; omega
    rw [h1]
    simp
theorem index_no : ∀ (a : List UInt8) (c : UInt8) (p : List UInt8), (∀ x ∈ a, x ≠ c) → Lib.index a (c :: p) = -1
  | [], _, _, _ => rfl
  | x :: a, c, p, h => by
    have hx := h x (by simp)
    have ih := index_no a c p fun y hy => h y (by simp [hy])
    have : (c :: p).isPrefixOf (x :: a) = false := by simp [List.isPrefixOf, Ne.symm hx]
    unfold Lib.index
    rw [this, ih]
    rfl
theorem cut_at (a : List UInt8) (c : UInt8) (p r : List UInt8) (h : ∀ x ∈ a, x ≠ c) : Lib.cut (a ++ (c :: p ++ r)) (c :: p) = (a, r, true) := by
  unfold Lib.cut
  rw [index_at a c p r h, if_pos (by omega), Int.toNat_natCast]
  simp [List.drop_append]
theorem cut_no (a : List UInt8) (c : UInt8) (p : List UInt8) (h : ∀ x ∈ a, x ≠ c) : Lib.cut a (c :: p) = (a, [], false) := by
  unfold Lib.cut
  rw [index_no a c p h, if_neg (by omega)]
def numI (l : List UInt8) : Int := match Lib.atoiAll l with
  | .ok v => v
  | _ => -1
/-- What the program takes a text for. -/
def tileP (l : List UInt8) : Int × Int × Int :=
  let c1 := Lib.cut (Lib.trimPrefix l lTile) lBar
  let c2 := Lib.cut c1.2.1 lPart
  (numI c1.1, numI c2.1, if c2.2.2 then numI c2.2.1 else 4)
theorem dig_ne {l : List UInt8} (h : ∀ c ∈ l, isD c = true) (d : UInt8) (hd : d.toNat < 48) : ∀ x ∈ l, x ≠ d := fun x hx e => by
  have := isD_nat (h x hx)
  rw [e] at this; omega
/-- A path is taken for its tile. -/
theorem tileP_path {L I W : Int} (h : okT L I W = true) : tileP (pathT L I W).data.toList = (L, I, W) := by
  obtain ⟨l, i, w, rfl, rfl, rfl, hl, hi, hw1, hw4⟩ := nats h
  rw [path_list l i w h]
  have d1 := (dec_dig l).1
  have d2 := (dec_dig i).1
  have t1 : Lib.trimPrefix (lTile ++ (Lib.decDigits l ++ (lBar ++ (Lib.decDigits i ++ (if w < 4 then lPart ++ Lib.decDigits w else []))))) lTile = Lib.decDigits l ++ (lBar ++ (Lib.decDigits i ++ (if w < 4 then lPart ++ Lib.decDigits w else []))) := by
    unfold Lib.trimPrefix Lib.hasPrefix
    rw [if_pos (by simp [List.isPrefixOf_iff_prefix]), List.drop_left' rfl]
  have t2 : Lib.cut (Lib.decDigits l ++ (lBar ++ (Lib.decDigits i ++ (if w < 4 then lPart ++ Lib.decDigits w else [])))) lBar = (Lib.decDigits l, Lib.decDigits i ++ (if w < 4 then lPart ++ Lib.decDigits w else []), true) :=
    cut_at (Lib.decDigits l) 47 [] _ (dig_ne d1 47 (by decide))
  unfold tileP
  simp only [t1, t2]
  have n1 : numI (Lib.decDigits l) = (l : Int) := by unfold numI; rw [atoi_dec l (by omega)]
  have n2 : numI (Lib.decDigits i) = (i : Int) := by unfold numI; rw [atoi_dec i hi]
  by_cases hw : w < 4
  · have t3 : Lib.cut (Lib.decDigits i ++ (lPart ++ Lib.decDigits w)) lPart = (Lib.decDigits i, Lib.decDigits w, true) := cut_at (Lib.decDigits i) 46 [112, 47] _ (dig_ne d2 46 (by decide))
    have n3 : numI (Lib.decDigits w) = (w : Int) := by unfold numI; rw [atoi_dec w (by omega)]
    rw [if_pos hw, t3, n1, n2]
    simp only [if_true, n3]
  · have t3 : Lib.cut (Lib.decDigits i ++ []) lPart = (Lib.decDigits i, [], false) := by rw [List.append_nil]; exact cut_no (Lib.decDigits i) 46 [112, 47] (dig_ne d2 46 (by decide))
    rw [if_neg hw, t3, n1, n2]
    have : w = 4 := by omega
    subst this
    rfl
theorem path_size {L I W : Int} (h : okT L I W = true) : (pathT L I W).size ≤ 100 := by
  obtain ⟨h0, h1, h2, h3, h4, h5⟩ := okT_iff.1 h
  have s1 := txN_size L (by omega) (by omega)
  have s2 := txN_size I (by omega) (by omega)
  have s3 := txN_size W (by omega) (by omega)
  unfold pathT
  rw [if_pos h]
  split
  · rw [ByteArray.size_append, ByteArray.size_append, ByteArray.size_append, ByteArray.size_append, ByteArray.size_append, show sTile.size = 5 from rfl, show sBar.size = 1 from rfl, show sPart.size = 3 from rfl]; omega
  · rw [ByteArray.size_append, ByteArray.size_append, ByteArray.size_append, show sTile.size = 5 from rfl, show sBar.size = 1 from rfl]; omega
/-- What the program answers of a text is what the document answers. -/
theorem progP (s : ByteArray) (L I W : Int) (hT : (L, I, W) = tileP s.data.toList ∨ 100 < s.size) :
    parV s.data.toList = if okT L I W = true ∧ pathT L I W = s then .tuple #[tv L I W, .int .i64 0] else .tuple #[tv 0 0 0, .int .i64 3] := by
  by_cases hc : okT L I W = true ∧ pathT L I W = s
  · rw [if_pos hc]
    unfold parV
    rw [← hc.2, parse_path L I W hc.1]
  · rw [if_neg hc]
    unfold parV
    cases hp : parseD s.data.toList with
    | none => rfl
    | some t =>
      obtain ⟨L', I', W'⟩ := t
      obtain ⟨h1, h2⟩ := parse_some hp
      have hs : pathT L' I' W' = s := ba_ext h1
      have hz := path_size h2
      rw [hs] at hz
      rcases hT with h3 | h3
      · rw [← hs, tileP_path h2] at h3
        cases h3
        exact absurd ⟨h2, hs⟩ hc
      · omega
end Go.Proofs.YthkfefkcjcgfkaaGreatDoor.Ti


/- The program's Parse. -/
namespace Go.Proofs.YthkfefkcjcgfkaaGreatDoor.Ti
open Go Go.RowKit

/-- What Parse needs of the library's variables. -/
structure ErV (B : Nat) (w : World) : Prop where
  s : ∃ te pe, w.cell? ⟨1, 0, none⟩ = some (.iface te pe)
  r : ∃ te pe, w.cell? ⟨2, 0, none⟩ = some (.iface te pe)
  m : ∃ k, w.cell? ⟨0, 0, none⟩ = some (.int .i64 k)
  ls : 1 < B
  lr : 2 < B
  lm : 0 < B
theorem ErV.below {B : Nat} {w w' : World} (h : ErV B w) (hb : Below B w w') : ErV B w' := by
  obtain ⟨a, b, c⟩ := h.s
  obtain ⟨d, e, f⟩ := h.r
  obtain ⟨k, hk⟩ := h.m
  exact ⟨⟨a, b, (hb.cell (p := ⟨1, 0, none⟩) h.ls).trans c⟩, ⟨d, e, (hb.cell (p := ⟨2, 0, none⟩) h.lr).trans f⟩, ⟨k, (hb.cell (p := ⟨0, 0, none⟩) h.lm).trans hk⟩, h.ls, h.lr, h.lm⟩
theorem ErV.here {B : Nat} {w w' : World} (h : ErV B w) (hB : B ≤ w.heap.size) (hb : Below w.heap.size w w') : ErV B w' := h.below (hb.mono hB)
set_option maxHeartbeats 1600000 in
set_option maxRecDepth 100000 in
theorem pnum_any (x : ByteArray) (B : Nat) (w : World) (hE : ErV B w) (hx : x.size ≤ 281474976710656) :
    Calls Tryz.prog 47 #[.string x] w fun e w' => e = .returned (.int .i64 (numI x.data.toList)) ∧ Below w.heap.size w w' := by
  cases ha : Lib.atoiAll x.data.toList with
  | ok v =>
    have hC := Tryz.strconv_Atoi_ok x (by omega) v ha w
    have hn : numI x.data.toList = v := by unfold numI; rw [ha]
    rw [hn]
    clear hn ha
    go_enter Tryz.func47, Tryz.ntmps47
    go_wp2_with fail
    refine hC.mono ?_
    rintro e w1 ⟨rfl, hw⟩
    have hb : Box (Below w.heap.size w w1) := ⟨by
      rcases hw with rfl | ⟨t, rfl⟩
      · exact Below.refl _ _
      · exact Lib.bytesWorld_below _ _ _⟩
    clear hw hC
    go_wp2_with fail
    go_ret
    exact ⟨rfl, hb.out⟩
  | range =>
    obtain ⟨te, pe, hv⟩ := hE.r
    have hC := Tryz.strconv_Atoi_range x hx ha _ w hv (.inr ⟨te, pe, rfl⟩)
    have hn : numI x.data.toList = -1 := by unfold numI; rw [ha]
    rw [hn]
    clear hn ha hv
    go_enter Tryz.func47, Tryz.ntmps47
    go_wp2_with fail
    refine hC.mono ?_
    rintro e w1 ⟨N, rfl, _, _, hb⟩
    replace hb := Box.mk hb
    clear hC
    go_wp2_with fail
    go_ret
    exact ⟨rfl, hb.out⟩
  | _ =>
    obtain ⟨te, pe, hv⟩ := hE.s
    have hC := Tryz.strconv_Atoi_syntax x hx (fun v e => by rw [ha] at e; cases e) (by rw [ha]; intro e; cases e) _ w hv (.inr ⟨te, pe, rfl⟩)
    have hn : numI x.data.toList = -1 := by unfold numI; rw [ha]
    rw [hn]
    clear hn ha hv
    go_enter Tryz.func47, Tryz.ntmps47
    go_wp2_with fail
    refine hC.mono ?_
    rintro e w1 ⟨N, rfl, _, _, hb⟩
    replace hb := Box.mk hb
    clear hC
    go_wp2_with fail
    go_ret
    exact ⟨rfl, hb.out⟩
theorem cut_len (l p : List UInt8) : (Lib.cut l p).1.length ≤ l.length ∧ (Lib.cut l p).2.1.length ≤ l.length := by
  unfold Lib.cut
  split
  · exact ⟨by rw [List.length_take]; exact Nat.min_le_right _ _, by rw [List.length_drop]; omega⟩
  · exact ⟨Nat.le_refl _, Nat.zero_le _⟩
theorem trim_len (l p : List UInt8) : (Lib.trimPrefix l p).length ≤ l.length := by
  unfold Lib.trimPrefix
  split
  · rw [List.length_drop]; omega
  · exact Nat.le_refl _
/-- In Parse: what it answers (a cell), the tile that it reads. -/
structure QS (w0 : World) (bt : Nat) (x y z : Value) (w : World) : Prop where
  b2 : Pk.Blk w w0.heap.size [.int .i64 0, .int .i64 0, .int .i64 0] 51
  b6 : Pk.Blk w bt [x, y, z] 51
  bel : Below w0.heap.size w0 w
  lt : w0.heap.size < bt
theorem QS.on {w0 w w' : World} {bt : Nat} {x y z : Value} (h : QS w0 bt x y z w) (hb : Below w.heap.size w w') : QS w0 bt x y z w' :=
  ⟨(hb.block _ h.b2.lt).trans h.b2, (hb.block _ h.b6.lt).trans h.b6, mono_bel h.bel hb (Nat.le_refl _), h.lt⟩
theorem QS.set2 {w0 w : World} {bt : Nat} {x y z : Value} (h : QS w0 bt x y z w) (v : Value) : QS w0 bt x y v (w.setCell ⟨bt, 2, none⟩ v) :=
  ⟨(Below.heap_setCell _ _ _ _ (by have := h.lt; simp; omega)).trans h.b2, h.b6.setCell 2 v, h.bel.setCell (p := ⟨bt, 2, none⟩) (Nat.le_of_lt h.lt) v, h.lt⟩
theorem QS.cells {w0 w : World} {bt : Nat} {x y z : Value} (h : QS w0 bt x y z w) : w.cell? ⟨bt, 0, none⟩ = some x ∧ w.cell? ⟨bt, 1, none⟩ = some y ∧ w.cell? ⟨bt, 2, none⟩ = some z ∧ w.frozen? ⟨bt, 2, none⟩ = false ∧
    w.cell? ⟨w0.heap.size, 0, none⟩ = some (.int .i64 0) ∧ w.cell? ⟨w0.heap.size, 1, none⟩ = some (.int .i64 0) ∧ w.cell? ⟨w0.heap.size, 2, none⟩ = some (.int .i64 0) ∧
    w.frozen? ⟨w0.heap.size, 0, none⟩ = false ∧ w.frozen? ⟨w0.heap.size, 1, none⟩ = false ∧ w.frozen? ⟨w0.heap.size, 2, none⟩ = false :=
  ⟨h.b6.cell 0, h.b6.cell 1, h.b6.cell 2, h.b6.free 2, h.b2.cell 0, h.b2.cell 1, h.b2.cell 2, h.b2.free 0, h.b2.free 1, h.b2.free 2⟩
theorem QS.out {w0 w : World} {bt : Nat} {x y z : Value} (h : QS w0 bt x y z w) (a b c : Value) : (psFin w0 w a b c).cell? ⟨w0.heap.size, 0, none⟩ = some a ∧ (psFin w0 w a b c).cell? ⟨w0.heap.size, 1, none⟩ = some b ∧ (psFin w0 w a b c).cell? ⟨w0.heap.size, 2, none⟩ = some c ∧ Below w0.heap.size w0 (psFin w0 w a b c) := by
  have k : Pk.Blk (psFin w0 w a b c) w0.heap.size [a, b, c] 51 := ((h.b2.setCell 0 a).setCell 1 b).setCell 2 c
  exact ⟨k.cell 0, k.cell 1, k.cell 2, ((h.bel.setCell (p := ⟨w0.heap.size, 0, none⟩) (Nat.le_refl _) a).setCell (p := ⟨w0.heap.size, 1, none⟩) (Nat.le_refl _) b).setCell (p := ⟨w0.heap.size, 2, none⟩) (Nat.le_refl _) c⟩
set_option maxHeartbeats 6400000 in
set_option maxRecDepth 100000 in
theorem pparse_any (s : ByteArray) (B : Nat) (w : World) (hL : Ld B w) (hE : ErV B w) (hB : B ≤ w.heap.size) (hs : s.size < 4294967281) :
    Calls Tryz.prog 12 #[.string s] w fun e w' => e = .returned (parV s.data.toList) ∧ Below w.heap.size w w' := by
  obtain ⟨l, hl⟩ : ∃ l, s.data.toList = l := ⟨_, rfl⟩
  have hlen : l.length = s.size := by rw [← hl, data_len]
  obtain ⟨tp, htp⟩ : ∃ tp, Lib.trimPrefix l lTile = tp := ⟨_, rfl⟩
  obtain ⟨x1, y1, b1, hc1⟩ : ∃ x y b, Lib.cut tp lBar = (x, y, b) := ⟨_, _, _, rfl⟩
  obtain ⟨x2, y2, b2, hc2⟩ : ∃ x y b, Lib.cut y1 lPart = (x, y, b) := ⟨_, _, _, rfl⟩
  have n0 : tp.length ≤ l.length := by rw [← htp]; exact trim_len _ _
  have n1 := cut_len tp lBar
  have n2 := cut_len y1 lPart
  rw [hc1] at n1
  rw [hc2] at n2
  simp only [] at n1 n2
  have hpp := progP s (numI x1) (numI x2) (if b2 then numI y2 else 4) (.inl (by unfold tileP; rw [hl, htp, hc1]; simp only []; rw [hc2]))
  rw [hl] at hpp ⊢
  obtain ⟨PV, hPV⟩ : ∃ PV, parV l = PV := ⟨_, rfl⟩
  rw [hPV] at hpp ⊢
  have hT := Tryz.strings_TrimPrefix s ⟨#[116, 105, 108, 101, 47]⟩
  rw [hl, show (⟨#[116, 105, 108, 101, 47]⟩ : ByteArray).data.toList = lTile from rfl, htp] at hT
  have hC1 := fun m w' hm => Tryz.strings_Cut (btxt tp) ⟨#[47]⟩ m w' (by rw [btxt_size]; omega) hm
  rw [btxt_list, show (⟨#[47]⟩ : ByteArray).data.toList = lBar from rfl, hc1] at hC1
  have hC2 := fun m w' hm => Tryz.strings_Cut (btxt y1) ⟨#[46, 112, 47]⟩ m w' (by rw [btxt_size]; omega) hm
  rw [btxt_list, show (⟨#[46, 112, 47]⟩ : ByteArray).data.toList = lPart from rfl, hc2] at hC2
  have hN1 := Box.mk (fun w' h => pnum_any (btxt x1) B w' h (by rw [btxt_size]; omega))
  have hN2 := Box.mk (fun w' h => pnum_any (btxt x2) B w' h (by rw [btxt_size]; omega))
  have hN3 := Box.mk (fun w' h => pnum_any (btxt y2) B w' h (by rw [btxt_size]; omega))
  simp only [btxt_list] at hN1 hN2 hN3
  obtain ⟨L, hLe⟩ : ∃ L, numI x1 = L := ⟨_, rfl⟩
  obtain ⟨I, hIe⟩ : ∃ I, numI x2 = I := ⟨_, rfl⟩
  obtain ⟨Z, hZe⟩ : ∃ Z, numI y2 = Z := ⟨_, rfl⟩
  simp only [hLe] at hN1 hpp
  simp only [hIe] at hN2 hpp
  simp only [hZe] at hN3 hpp
  have hal := bel_alloc w (.cells #[.int .i64 0, .int .i64 0, .int .i64 0] 51)
  obtain ⟨k, hk⟩ := hE.m
  have hE1 := hE.here hB hal
  obtain ⟨k1, hk1⟩ := hE1.m
  have hC1' := hC1 k1 _ hk1
  replace hL := Box.mk hL
  replace hE := Box.mk hE
  replace hC2 := Box.mk hC2
  replace hpp := Box.mk hpp
  unfold btxt at hC1'
  clear hl hlen htp hc1 hc2 n0 n1 n2 hPV hLe hIe hZe hk hC1 hE1 hk1
  go_enter Tryz.func12, Tryz.ntmps12
  go_wp2_with fail
  refine (hT _).mono ?_
  clear hT
  rintro e w1 ⟨rfl, rfl⟩
  go_wp2_with fail
  refine hC1'.mono ?_
  clear hC1'
  rintro e w2 ⟨rfl, nq, hw2⟩
  have hb2 : Below w.heap.size w w2 := by rw [hw2]; exact mono_bel hal (Drawn.below ⟨nq, rfl⟩) (Nat.le_refl _)
  have hbk : Pk.Blk w2 w.heap.size [.int .i64 0, .int .i64 0, .int .i64 0] 51 := by rw [hw2]; exact Pk.Blk.new w _ _
  have hE2 := hE.out.here hB hb2
  obtain ⟨k2, hk2⟩ := hE2.m
  have hC2' := hC2.out k2 w2 hk2
  unfold btxt at hC2'
  replace hb2 := Box.mk hb2
  replace hbk := Box.mk hbk
  clear hw2 hal hC2 hE2 hk2
  go_wp2_with fail
  refine hC2'.mono ?_
  clear hC2'
  rintro e w3 ⟨rfl, nq3, hw3⟩
  have hd3 : Below w2.heap.size w2 w3 := by rw [hw3]; exact Drawn.below ⟨nq3, rfl⟩
  replace hbk := Box.mk ((hd3.block _ hbk.out.lt).trans hbk.out)
  replace hb2 := Box.mk (mono_bel hb2.out hd3 (Nat.le_refl _))
  have hNn := hN1.out w3 (hE.out.here hB hb2.out)
  unfold btxt at hNn
  clear hw3 hd3 hN1
  go_wp2_with fail
  refine hNn.mono ?_
  clear hNn
  rintro e w4 ⟨rfl, hb4⟩
  replace hbk := Box.mk ((hb4.block _ (Pk.Blk.lt hbk.out)).trans hbk.out)
  replace hb2 := Box.mk (mono_bel hb2.out hb4 (Nat.le_refl _))
  have hNn := hN2.out w4 (hE.out.here hB hb2.out)
  unfold btxt at hNn
  clear hb4 hN2
  go_wp2_with fail
  refine hNn.mono ?_
  clear hNn
  rintro e w5 ⟨rfl, hb5⟩
  replace hbk := Box.mk ((hb5.block _ (Pk.Blk.lt hbk.out)).trans hbk.out)
  replace hb2 := Box.mk (mono_bel hb2.out hb5 (Nat.le_refl _))
  clear hb5
  have hk5 := bel_alloc w5 (.cells #[.int .i64 L, .int .i64 I, .int .i64 4] 51)
  have hN3' := fun w' hb => hN3.out w' (hE.out.here hB (mono_bel hb2.out hb (Nat.le_refl _)))
  unfold btxt at hN3'
  replace hN3' := Box.mk hN3'
  have hQ0 : QS w w5.heap.size (.int .i64 L) (.int .i64 I) (.int .i64 4) (w5.alloc (.cells #[.int .i64 L, .int .i64 I, .int .i64 4] 51)) := ⟨(Below.heap_alloc _ _ _ (Pk.Blk.lt hbk.out)).trans hbk.out, Pk.Blk.new w5 [.int .i64 L, .int .i64 I, .int .i64 4] _, mono_bel hb2.out (bel_alloc _ _) (Nat.le_refl _), Pk.Blk.lt hbk.out⟩
  cases b2
  · clear hN3 hN3'
    obtain ⟨wq, hwq⟩ : ∃ wq, w5.alloc (.cells #[.int .i64 L, .int .i64 I, .int .i64 4] 51) = wq := ⟨_, rfl⟩
    have hQ := Box.mk hQ0
    rw [hwq] at hQ
    obtain ⟨bt, hbt⟩ : ∃ bt, w5.heap.size = bt := ⟨_, rfl⟩
    rw [hbt] at hQ
    clear hQ0 hk5 hb2 hbk
    obtain ⟨c0, c1, c2, f2, d0, d1, d2, g0, g1, g2⟩ := hQ.out.cells
    have hGd := good_any L I 4 wq
    have hPth := fun w' hb => path_any L I 4 B w' (hL.out.here (hQ.out.on hb).bel hB) (Nat.le_trans hB (hQ.out.on hb).bel.size)
    unfold tv at hGd hPth
    have hpp2 := hpp.out
    simp only [Bool.false_eq_true, if_false] at hpp2
    replace hPth := Box.mk hPth
    cases ho : okT L I 4 with
    | false =>
      rw [ho] at hGd hpp2
      rw [if_neg (by simp)] at hpp2
      replace hpp2 := Box.mk hpp2
      clear hPth ho
      go_wp2_with fail
      refine hGd.mono ?_
      clear hGd c0 c1 c2 f2 d0 d1 d2 g0 g1 g2
      rintro e w8 ⟨rfl, hb8⟩
      replace hQ := Box.mk (hQ.out.on hb8)
      obtain ⟨c0, c1, c2, f2, d0, d1, d2, g0, g1, g2⟩ := hQ.out.cells
      clear hb8
      go_wp2_with fail
      have hf := hQ.out.out (.int .i64 0) (.int .i64 0) (.int .i64 0)
      obtain ⟨wf, hwf⟩ : ∃ wf, psFin w w8 (.int .i64 0) (.int .i64 0) (.int .i64 0) = wf := ⟨_, rfl⟩
      rw [hwf] at hf
      unfold psFin at hwf
      rw [hwf]
      obtain ⟨k0, k1, k2, hbf⟩ := hf
      clear c0 c1 c2 f2 d0 d1 d2 g0 g1 g2 hwf
      refine bodyPost_ret (v := .tuple #[tv 0 0 0, .int .i64 3]) (by simp [results, Tryz.results12, go_sem, k0, k1, k2]; try rfl) rfl ⟨by rw [hpp2.out], hbf⟩
    | true =>
      rw [ho] at hGd hpp2
      clear ho
      obtain ⟨Q, hQe⟩ : ∃ Q, pathT L I 4 = Q := ⟨_, rfl⟩
      simp only [hQe] at hPth hpp2
      go_wp2_with fail
      refine hGd.mono ?_
      clear hGd c0 c1 c2 f2 d0 d1 d2 g0 g1 g2
      rintro e w8 ⟨rfl, hb8⟩
      have hPt8 := hPth.out w8 hb8
      replace hQ := Box.mk (hQ.out.on hb8)
      obtain ⟨c0, c1, c2, f2, d0, d1, d2, g0, g1, g2⟩ := hQ.out.cells
      clear hb8 hPth
      go_wp2_with fail
      refine hPt8.mono ?_
      clear hPt8 c0 c1 c2 f2 d0 d1 d2 g0 g1 g2
      rintro e w9 ⟨rfl, hb9⟩
      replace hQ := Box.mk (hQ.out.on hb9)
      obtain ⟨c0, c1, c2, f2, d0, d1, d2, g0, g1, g2⟩ := hQ.out.cells
      clear hb9
      have hqs := tl_eq Q s
      by_cases hx : Q = s
      · rw [if_pos ⟨trivial, hx⟩] at hpp2
        have hq2 : (Q.toList != s.toList) = false := by rw [bne, hqs, decide_eq_true hx]; rfl
        rw [decide_eq_true hx] at hqs
        replace hpp2 := Box.mk hpp2
        clear hx
        go_wp2_with fail
        have hf := hQ.out.out (.int .i64 L) (.int .i64 I) (.int .i64 4)
        obtain ⟨wf, hwf⟩ : ∃ wf, psFin w w9 (.int .i64 L) (.int .i64 I) (.int .i64 4) = wf := ⟨_, rfl⟩
        rw [hwf] at hf
        unfold psFin at hwf
        rw [hwf]
        obtain ⟨k0, k1, k2, hbf⟩ := hf
        clear c0 c1 c2 f2 d0 d1 d2 g0 g1 g2 hwf
        refine bodyPost_ret (v := .tuple #[tv L I 4, .int .i64 0]) (by simp [results, Tryz.results12, go_sem, k0, k1, k2]; try rfl) rfl ⟨by rw [hpp2.out], hbf⟩
      · rw [if_neg (fun h => hx h.2)] at hpp2
        have hq2 : (Q.toList != s.toList) = true := by rw [bne, hqs, decide_eq_false hx]; rfl
        rw [decide_eq_false hx] at hqs
        replace hpp2 := Box.mk hpp2
        clear hx
        go_wp2_with fail
        have hf := hQ.out.out (.int .i64 0) (.int .i64 0) (.int .i64 0)
        obtain ⟨wf, hwf⟩ : ∃ wf, psFin w w9 (.int .i64 0) (.int .i64 0) (.int .i64 0) = wf := ⟨_, rfl⟩
        rw [hwf] at hf
        unfold psFin at hwf
        rw [hwf]
        obtain ⟨k0, k1, k2, hbf⟩ := hf
        clear c0 c1 c2 f2 d0 d1 d2 g0 g1 g2 hwf
        refine bodyPost_ret (v := .tuple #[tv 0 0 0, .int .i64 3]) (by simp [results, Tryz.results12, go_sem, k0, k1, k2]; try rfl) rfl ⟨by rw [hpp2.out], hbf⟩
  · clear hN3
    have hNn := hN3'.out _ hk5
    clear hN3' hk5
    go_wp2_with fail
    refine hNn.mono ?_
    clear hNn
    rintro e w6 ⟨rfl, hb6⟩
    have hQ1 := Box.mk (hQ0.on hb6)
    obtain ⟨bt, hbt⟩ : ∃ bt, w5.heap.size = bt := ⟨_, rfl⟩
    rw [hbt] at hQ1
    obtain ⟨_, _, r2, s2, _⟩ := hQ1.out.cells
    have hQ := Box.mk (hQ1.out.set2 (.int .i64 Z))
    obtain ⟨wq, hwq⟩ : ∃ wq, w6.setCell ⟨bt, 2, none⟩ (.int .i64 Z) = wq := ⟨_, rfl⟩
    rw [hwq] at hQ
    clear hQ0 hb2 hbk hb6 hQ1
    obtain ⟨c0, c1, c2, f2, d0, d1, d2, g0, g1, g2⟩ := hQ.out.cells
    have hGd := good_any L I Z wq
    have hPth := fun w' hb => path_any L I Z B w' (hL.out.here (hQ.out.on hb).bel hB) (Nat.le_trans hB (hQ.out.on hb).bel.size)
    unfold tv at hGd hPth
    have hpp2 := hpp.out
    simp only [if_true] at hpp2
    replace hPth := Box.mk hPth
    cases ho : okT L I Z with
    | false =>
      rw [ho] at hGd hpp2
      rw [if_neg (by simp)] at hpp2
      replace hpp2 := Box.mk hpp2
      clear hPth ho
      go_wp2_with fail
      refine hGd.mono ?_
      clear hGd c0 c1 c2 f2 d0 d1 d2 g0 g1 g2
      rintro e w8 ⟨rfl, hb8⟩
      replace hQ := Box.mk (hQ.out.on hb8)
      obtain ⟨c0, c1, c2, f2, d0, d1, d2, g0, g1, g2⟩ := hQ.out.cells
      clear hb8
      go_wp2_with fail
      have hf := hQ.out.out (.int .i64 0) (.int .i64 0) (.int .i64 0)
      obtain ⟨wf, hwf⟩ : ∃ wf, psFin w w8 (.int .i64 0) (.int .i64 0) (.int .i64 0) = wf := ⟨_, rfl⟩
      rw [hwf] at hf
      unfold psFin at hwf
      rw [hwf]
      obtain ⟨k0, k1, k2, hbf⟩ := hf
      clear c0 c1 c2 f2 d0 d1 d2 g0 g1 g2 hwf
      refine bodyPost_ret (v := .tuple #[tv 0 0 0, .int .i64 3]) (by simp [results, Tryz.results12, go_sem, k0, k1, k2]; try rfl) rfl ⟨by rw [hpp2.out], hbf⟩
    | true =>
      rw [ho] at hGd hpp2
      clear ho
      obtain ⟨Q, hQe⟩ : ∃ Q, pathT L I Z = Q := ⟨_, rfl⟩
      simp only [hQe] at hPth hpp2
      go_wp2_with fail
      refine hGd.mono ?_
      clear hGd c0 c1 c2 f2 d0 d1 d2 g0 g1 g2
      rintro e w8 ⟨rfl, hb8⟩
      have hPt8 := hPth.out w8 hb8
      replace hQ := Box.mk (hQ.out.on hb8)
      obtain ⟨c0, c1, c2, f2, d0, d1, d2, g0, g1, g2⟩ := hQ.out.cells
      clear hb8 hPth
      go_wp2_with fail
      refine hPt8.mono ?_
      clear hPt8 c0 c1 c2 f2 d0 d1 d2 g0 g1 g2
      rintro e w9 ⟨rfl, hb9⟩
      replace hQ := Box.mk (hQ.out.on hb9)
      obtain ⟨c0, c1, c2, f2, d0, d1, d2, g0, g1, g2⟩ := hQ.out.cells
      clear hb9
      have hqs := tl_eq Q s
      by_cases hx : Q = s
      · rw [if_pos ⟨trivial, hx⟩] at hpp2
        have hq2 : (Q.toList != s.toList) = false := by rw [bne, hqs, decide_eq_true hx]; rfl
        rw [decide_eq_true hx] at hqs
        replace hpp2 := Box.mk hpp2
        clear hx
        go_wp2_with fail
        have hf := hQ.out.out (.int .i64 L) (.int .i64 I) (.int .i64 Z)
        obtain ⟨wf, hwf⟩ : ∃ wf, psFin w w9 (.int .i64 L) (.int .i64 I) (.int .i64 Z) = wf := ⟨_, rfl⟩
        rw [hwf] at hf
        unfold psFin at hwf
        rw [hwf]
        obtain ⟨k0, k1, k2, hbf⟩ := hf
        clear c0 c1 c2 f2 d0 d1 d2 g0 g1 g2 hwf
        refine bodyPost_ret (v := .tuple #[tv L I Z, .int .i64 0]) (by simp [results, Tryz.results12, go_sem, k0, k1, k2]; try rfl) rfl ⟨by rw [hpp2.out], hbf⟩
      · rw [if_neg (fun h => hx h.2)] at hpp2
        have hq2 : (Q.toList != s.toList) = true := by rw [bne, hqs, decide_eq_false hx]; rfl
        rw [decide_eq_false hx] at hqs
        replace hpp2 := Box.mk hpp2
        clear hx
        go_wp2_with fail
        have hf := hQ.out.out (.int .i64 0) (.int .i64 0) (.int .i64 0)
        obtain ⟨wf, hwf⟩ : ∃ wf, psFin w w9 (.int .i64 0) (.int .i64 0) (.int .i64 0) = wf := ⟨_, rfl⟩
        rw [hwf] at hf
        unfold psFin at hwf
        rw [hwf]
        obtain ⟨k0, k1, k2, hbf⟩ := hf
        clear c0 c1 c2 f2 d0 d1 d2 g0 g1 g2 hwf
        refine bodyPost_ret (v := .tuple #[tv 0 0 0, .int .i64 3]) (by simp [results, Tryz.results12, go_sem, k0, k1, k2]; try rfl) rfl ⟨by rw [hpp2.out], hbf⟩
end Go.Proofs.YthkfefkcjcgfkaaGreatDoor.Ti
