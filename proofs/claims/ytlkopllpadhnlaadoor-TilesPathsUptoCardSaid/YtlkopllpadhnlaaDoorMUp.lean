/- Paths, on lists: what the program reads out of a text is what the document reads. | The program's Parse. | A tile that came in. | What TilesPaths' row of six variables gives: the four tables, and strconv's two sentinels; a world for its witness, in which they stand. | TilesPaths: every tile has its path, or none; every text is the path of the tile that the document says, or of none. -/
import Derived.Lib.AtoiAllCases
import Derived.Lib.IndexMore
import Derived.Stop.LaidErr
import Derived.Shelf.Vars
import Derived.Deep.DeepWitnessRowRef
import Derived.Test.YtlkopllpadhnlaaDoorMUa
import Derived.Test.YtlkopllpadhnlaaDoorTiLb
import Derived.Test.YtlkopllpadhnlaaDoorMUe
import Derived.Test.YtlkopllpadhnlaaDoorTiV
namespace Go.Proofs.YtlkopllpadhnlaaDoor
open Go Go.RowKit

def valA (acc : Nat) (l : List UInt8) : Nat := l.foldl (fun n c => 10 * n + (c.toNat - 48)) acc
theorem valA_ge : ∀ (l : List UInt8) (acc : Nat), acc ≤ valA acc l
  | [], _ => Nat.le_refl _
  | c :: r, acc => by
    have := valA_ge r (10 * acc + (c.toNat - 48))
    show acc ≤ valA (10 * acc + (c.toNat - 48)) r
    omega
theorem isD_nat {c : UInt8} (h : isD c = true) : 48 ≤ c.toNat ∧ c.toNat ≤ 57 := by
  unfold isD at h
  simpa [UInt8.le_iff_toNat_le] using h
theorem pu_dig : ∀ (l : List UInt8) (acc : Nat), (∀ c ∈ l, isD c = true) → valA acc l < 1844674407370955162 → Lib.parseUint10 acc l = .ok (valA acc l)
  | [], _, _, _ => rfl
  | c :: r, acc, hd, hv => by
    have hc := isD_nat (hd c (by simp))
    have hv' : valA (10 * acc + (c.toNat - 48)) r < 1844674407370955162 := hv
    have hg := valA_ge r (10 * acc + (c.toNat - 48))
    rw [Lib.parseUint10, if_pos hc, if_neg (by omega), if_neg (by omega), show acc * 10 + (c.toNat - 48) = 10 * acc + (c.toNat - 48) by omega, pu_dig r _ (fun x hx => hd x (by simp [hx])) hv']
    rfl
theorem atoi_dec (u : Nat) (hu : u ≤ 1099511627776) : Lib.atoiAll (Lib.decDigits u) = .ok (u : Int) := by
  obtain ⟨h1, h2, _, h4⟩ := dec_dig u
  have hp : Lib.parseMag (Lib.decDigits u) = .ok u := by
    unfold Lib.parseMag
    rw [if_neg h4, pu_dig _ 0 h1 (by show valD _ < _; rw [h2]; omega)]
    show Lib.NumEnd.ok (valD _) = _
    rw [h2]
  cases hd : Lib.decDigits u with
  | nil => exact absurd hd h4
  | cons c r =>
    have hc := isD_nat (h1 c (by rw [hd]; simp))
    rw [Lib.atoiAll_plain c r (by omega) (by omega), ← hd, hp]
    show (if 9223372036854775808 ≤ u then Lib.NumEnd.range else Lib.NumEnd.ok (u : Int)) = _
    rw [if_neg (by omega)]
theorem index_at : ∀ (a : List UInt8) (c : UInt8) (p r : List UInt8), (∀ x ∈ a, x ≠ c) → Lib.index (a ++ (c :: p ++ r)) (c :: p) = (a.length : Int)
  | [], c, p, r, _ => by
    show Lib.index (c :: (p ++ r)) (c :: p) = 0
    have : (c :: p).isPrefixOf (c :: (p ++ r)) = true := by simp [List.isPrefixOf_iff_prefix]
    unfold Lib.index
    rw [if_pos this]
  | x :: a, c, p, r, h => by
    have hx := h x (by simp)
    have ih := index_at a c p r fun y hy => h y (by simp [hy])
    have : (c :: p).isPrefixOf (x :: (a ++ (c :: p ++ r))) = false := by simp [List.isPrefixOf, Ne.symm hx]
    rw [List.cons_append]
    unfold Lib.index
    rw [this, ih]
    have h1 : ((a.length : Int) == -1) = false := by
      cases h : ((a.length : Int) == -1)
      · rfl
      · have := eq_of_beq h; omega
    rw [h1]
    simp
theorem index_no : ∀ (a : List UInt8) (c : UInt8) (p : List UInt8), (∀ x ∈ a, x ≠ c) → Lib.index a (c :: p) = -1
  | [], _, _, _ => rfl
  | x :: a, c, p, h => by
    have hx := h x (by simp)
    have ih := index_no a c p fun y hy => h y (by simp [hy])
    have : (c :: p).isPrefixOf (x :: a) = false := by simp [List.isPrefixOf, Ne.symm hx]
    unfold Lib.index
    rw [this, ih]
    rfl
theorem cut_at (a : List UInt8) (c : UInt8) (p r : List UInt8) (h : ∀ x ∈ a, x ≠ c) : Lib.cut (a ++ (c :: p ++ r)) (c :: p) = (a, r, true) := by
  unfold Lib.cut
  rw [index_at a c p r h, if_pos (by omega), Int.toNat_natCast]
  simp [List.drop_append]
theorem cut_no (a : List UInt8) (c : UInt8) (p : List UInt8) (h : ∀ x ∈ a, x ≠ c) : Lib.cut a (c :: p) = (a, [], false) := by
  unfold Lib.cut
  rw [index_no a c p h, if_neg (by omega)]
def numI (l : List UInt8) : Int := match Lib.atoiAll l with
  | .ok v => v
  | _ => -1
/-- What the program takes a text for. -/
def tileP (l : List UInt8) : Int × Int × Int :=
  let c1 := Lib.cut (Lib.trimPrefix l lTile) lBar
  let c2 := Lib.cut c1.2.1 lPart
  (numI c1.1, numI c2.1, if c2.2.2 then numI c2.2.1 else 4)
theorem dig_ne {l : List UInt8} (h : ∀ c ∈ l, isD c = true) (d : UInt8) (hd : d.toNat < 48) : ∀ x ∈ l, x ≠ d := fun x hx e => by
  have := isD_nat (h x hx)
  rw [e] at this; omega
/-- A path is taken for its tile. -/
theorem tileP_path {L I W : Int} (h : okT L I W = true) : tileP (pathT L I W).data.toList = (L, I, W) := by
  obtain ⟨l, i, w, rfl, rfl, rfl, hl, hi, hw1, hw4⟩ := nats h
  rw [path_list l i w h]
  have d1 := (dec_dig l).1
  have d2 := (dec_dig i).1
  have t1 : Lib.trimPrefix (lTile ++ (Lib.decDigits l ++ (lBar ++ (Lib.decDigits i ++ (if w < 4 then lPart ++ Lib.decDigits w else []))))) lTile = Lib.decDigits l ++ (lBar ++ (Lib.decDigits i ++ (if w < 4 then lPart ++ Lib.decDigits w else []))) := by
    unfold Lib.trimPrefix Lib.hasPrefix
    rw [if_pos (by simp [List.isPrefixOf_iff_prefix]), List.drop_left' rfl]
  have t2 : Lib.cut (Lib.decDigits l ++ (lBar ++ (Lib.decDigits i ++ (if w < 4 then lPart ++ Lib.decDigits w else [])))) lBar = (Lib.decDigits l, Lib.decDigits i ++ (if w < 4 then lPart ++ Lib.decDigits w else []), true) :=
    cut_at (Lib.decDigits l) 47 [] _ (dig_ne d1 47 (by decide))
  unfold tileP
  simp only [t1, t2]
  have n1 : numI (Lib.decDigits l) = (l : Int) := by unfold numI; rw [atoi_dec l (by omega)]
  have n2 : numI (Lib.decDigits i) = (i : Int) := by unfold numI; rw [atoi_dec i hi]
  by_cases hw : w < 4
  · have t3 : Lib.cut (Lib.decDigits i ++ (lPart ++ Lib.decDigits w)) lPart = (Lib.decDigits i, Lib.decDigits w, true) := cut_at (Lib.decDigits i) 46 [112, 47] _ (dig_ne d2 46 (by decide))
    have n3 : numI (Lib.decDigits w) = (w : Int) := by unfold numI; rw [atoi_dec w (by omega)]
    rw [if_pos hw, t3, n1, n2]
    simp only [if_true, n3]
  · have t3 : Lib.cut (Lib.decDigits i ++ []) lPart = (Lib.decDigits i, [], false) := by rw [List.append_nil]; exact cut_no (Lib.decDigits i) 46 [112, 47] (dig_ne d2 46 (by decide))
    rw [if_neg hw, t3, n1, n2]
    have : w = 4 := by omega
    subst this
    rfl
theorem path_size {L I W : Int} (h : okT L I W = true) : (pathT L I W).size ≤ 100 := by
  obtain ⟨h0, h1, h2, h3, h4, h5⟩ := okT_iff.1 h
  have s1 := txN_size L (by omega) (by omega)
  have s2 := txN_size I (by omega) (by omega)
  have s3 := txN_size W (by omega) (by omega)
  unfold pathT
  rw [if_pos h]
  split
  · rw [ByteArray.size_append, ByteArray.size_append, ByteArray.size_append, ByteArray.size_append, ByteArray.size_append, show sTile.size = 5 from rfl, show sBar.size = 1 from rfl, show sPart.size = 3 from rfl]; omega
  · rw [ByteArray.size_append, ByteArray.size_append, ByteArray.size_append, show sTile.size = 5 from rfl, show sBar.size = 1 from rfl]; omega
/-- What the program answers of a text is what the document answers. -/
theorem progP (s : ByteArray) (L I W : Int) (hT : (L, I, W) = tileP s.data.toList ∨ 100 < s.size) :
    parV s.data.toList = if okT L I W = true ∧ pathT L I W = s then .tuple #[tv L I W, .int .i64 0] else .tuple #[tv 0 0 0, .int .i64 3] := by
  by_cases hc : okT L I W = true ∧ pathT L I W = s
  · rw [if_pos hc]
    unfold parV
    rw [← hc.2, parse_path L I W hc.1]
  · rw [if_neg hc]
    unfold parV
    cases hp : parseD s.data.toList with
    | none => rfl
    | some t =>
      obtain ⟨L', I', W'⟩ := t
      obtain ⟨h1, h2⟩ := parse_some hp
      have hs : pathT L' I' W' = s := ba_ext h1
      have hz := path_size h2
      rw [hs] at hz
      rcases hT with h3 | h3
      · rw [← hs, tileP_path h2] at h3
        cases h3
        exact absurd ⟨h2, hs⟩ hc
      · omega
end Go.Proofs.YtlkopllpadhnlaaDoor

namespace Go.Proofs.YtlkopllpadhnlaaDoor
open Go Go.RowKit

/-- What Parse needs of the library's variables. -/
structure ErV (B : Nat) (w : World) : Prop where
  s : ∃ te pe, w.cell? ⟨2, 0, none⟩ = some (.iface te pe)
  r : ∃ te pe, w.cell? ⟨3, 0, none⟩ = some (.iface te pe)
  m : ∃ k, w.cell? ⟨0, 0, none⟩ = some (.int .i64 k)
  ls : 2 < B
  lr : 3 < B
  lm : 0 < B
theorem ErV.below {B : Nat} {w w' : World} (h : ErV B w) (hb : Below B w w') : ErV B w' := by
  obtain ⟨a, b, c⟩ := h.s
  obtain ⟨d, e, f⟩ := h.r
  obtain ⟨k, hk⟩ := h.m
  exact ⟨⟨a, b, (hb.cell (p := ⟨2, 0, none⟩) h.ls).trans c⟩, ⟨d, e, (hb.cell (p := ⟨3, 0, none⟩) h.lr).trans f⟩, ⟨k, (hb.cell (p := ⟨0, 0, none⟩) h.lm).trans hk⟩, h.ls, h.lr, h.lm⟩
theorem ErV.here {B : Nat} {w w' : World} (h : ErV B w) (hB : B ≤ w.heap.size) (hb : Below w.heap.size w w') : ErV B w' := h.below (hb.mono hB)
set_option maxHeartbeats 1600000 in
set_option maxRecDepth 100000 in
theorem pnum_any (x : ByteArray) (B : Nat) (w : World) (hE : ErV B w) (hx : x.size ≤ 281474976710656) :
    Calls Tryd.prog 33 #[.string x] w fun e w' => e = .returned (.int .i64 (numI x.data.toList)) ∧ Below w.heap.size w w' := by
  cases ha : Lib.atoiAll x.data.toList with
  | ok v =>
    have hC := Tryd.strconv_Atoi_ok x (by omega) v ha w
    have hn : numI x.data.toList = v := by unfold numI; rw [ha]
    rw [hn]
    clear hn ha
    go_enter Tryd.func33, Tryd.ntmps33
    go_wp2_with fail
    refine hC.mono ?_
    rintro e w1 ⟨rfl, hw⟩
    have hb : Box (Below w.heap.size w w1) := ⟨by
      rcases hw with rfl | ⟨t, rfl⟩
      · exact Below.refl _ _
      · exact Lib.bytesWorld_below _ _ _⟩
    clear hw hC
    go_wp2_with fail
    go_ret
    exact ⟨rfl, hb.out⟩
  | «syntax» =>
    obtain ⟨te, pe, hv⟩ := hE.s
    have hC := Tryd.strconv_Atoi_syntax x hx ha _ w hv (.inr ⟨te, pe, rfl⟩)
    have hn : numI x.data.toList = -1 := by unfold numI; rw [ha]
    rw [hn]
    clear hn ha hv
    go_enter Tryd.func33, Tryd.ntmps33
    go_wp2_with fail
    refine hC.mono ?_
    rintro e w1 ⟨N, rfl, _, _, hb⟩
    replace hb := Box.mk hb
    clear hC
    go_wp2_with fail
    go_ret
    exact ⟨rfl, hb.out⟩
  | range =>
    obtain ⟨te, pe, hv⟩ := hE.r
    have hC := Tryd.strconv_Atoi_range x hx ha _ w hv (.inr ⟨te, pe, rfl⟩)
    have hn : numI x.data.toList = -1 := by unfold numI; rw [ha]
    rw [hn]
    clear hn ha hv
    go_enter Tryd.func33, Tryd.ntmps33
    go_wp2_with fail
    refine hC.mono ?_
    rintro e w1 ⟨N, rfl, _, _, hb⟩
    replace hb := Box.mk hb
    clear hC
    go_wp2_with fail
    go_ret
    exact ⟨rfl, hb.out⟩
theorem cut_len (l p : List UInt8) : (Lib.cut l p).1.length ≤ l.length ∧ (Lib.cut l p).2.1.length ≤ l.length := by
  unfold Lib.cut
  split
  · exact ⟨by rw [List.length_take]; exact Nat.min_le_right _ _, by rw [List.length_drop]; omega⟩
  · exact ⟨Nat.le_refl _, Nat.zero_le _⟩
theorem trim_len (l p : List UInt8) : (Lib.trimPrefix l p).length ≤ l.length := by
  unfold Lib.trimPrefix
  split
  · rw [List.length_drop]; omega
  · exact Nat.le_refl _
/-- In Parse: what it answers (a cell), the tile that it reads. -/
structure QS (w0 : World) (bt : Nat) (x y z : Value) (w : World) : Prop where
  b2 : Pk.Blk w w0.heap.size [.int .i64 0, .int .i64 0, .int .i64 0] 23
  b6 : Pk.Blk w bt [x, y, z] 23
  bel : Below w0.heap.size w0 w
  lt : w0.heap.size < bt
theorem QS.on {w0 w w' : World} {bt : Nat} {x y z : Value} (h : QS w0 bt x y z w) (hb : Below w.heap.size w w') : QS w0 bt x y z w' :=
  ⟨(hb.block _ h.b2.lt).trans h.b2, (hb.block _ h.b6.lt).trans h.b6, mono_bel h.bel hb (Nat.le_refl _), h.lt⟩
theorem QS.set2 {w0 w : World} {bt : Nat} {x y z : Value} (h : QS w0 bt x y z w) (v : Value) : QS w0 bt x y v (w.setCell ⟨bt, 2, none⟩ v) :=
  ⟨(Below.heap_setCell _ _ _ _ (by have := h.lt; simp; omega)).trans h.b2, h.b6.setCell 2 v, h.bel.setCell (p := ⟨bt, 2, none⟩) (Nat.le_of_lt h.lt) v, h.lt⟩
theorem QS.cells {w0 w : World} {bt : Nat} {x y z : Value} (h : QS w0 bt x y z w) : w.cell? ⟨bt, 0, none⟩ = some x ∧ w.cell? ⟨bt, 1, none⟩ = some y ∧ w.cell? ⟨bt, 2, none⟩ = some z ∧ w.frozen? ⟨bt, 2, none⟩ = false ∧
    w.cell? ⟨w0.heap.size, 0, none⟩ = some (.int .i64 0) ∧ w.cell? ⟨w0.heap.size, 1, none⟩ = some (.int .i64 0) ∧ w.cell? ⟨w0.heap.size, 2, none⟩ = some (.int .i64 0) ∧
    w.frozen? ⟨w0.heap.size, 0, none⟩ = false ∧ w.frozen? ⟨w0.heap.size, 1, none⟩ = false ∧ w.frozen? ⟨w0.heap.size, 2, none⟩ = false :=
  ⟨h.b6.cell 0, h.b6.cell 1, h.b6.cell 2, h.b6.free 2, h.b2.cell 0, h.b2.cell 1, h.b2.cell 2, h.b2.free 0, h.b2.free 1, h.b2.free 2⟩
theorem QS.out {w0 w : World} {bt : Nat} {x y z : Value} (h : QS w0 bt x y z w) (a b c : Value) : (PS.fin w0 w a b c).cell? ⟨w0.heap.size, 0, none⟩ = some a ∧ (PS.fin w0 w a b c).cell? ⟨w0.heap.size, 1, none⟩ = some b ∧ (PS.fin w0 w a b c).cell? ⟨w0.heap.size, 2, none⟩ = some c ∧ Below w0.heap.size w0 (PS.fin w0 w a b c) := by
  have k : Pk.Blk (PS.fin w0 w a b c) w0.heap.size [a, b, c] 23 := ((h.b2.setCell 0 a).setCell 1 b).setCell 2 c
  exact ⟨k.cell 0, k.cell 1, k.cell 2, ((h.bel.setCell (p := ⟨w0.heap.size, 0, none⟩) (Nat.le_refl _) a).setCell (p := ⟨w0.heap.size, 1, none⟩) (Nat.le_refl _) b).setCell (p := ⟨w0.heap.size, 2, none⟩) (Nat.le_refl _) c⟩
set_option maxHeartbeats 6400000 in
set_option maxRecDepth 100000 in
theorem pparse_any (s : ByteArray) (B : Nat) (w : World) (hL : Ld B w) (hE : ErV B w) (hB : B ≤ w.heap.size) (hs : s.size < 4294967281) :
    Calls Tryd.prog 12 #[.string s] w fun e w' => e = .returned (parV s.data.toList) ∧ Below w.heap.size w w' := by
  obtain ⟨l, hl⟩ : ∃ l, s.data.toList = l := ⟨_, rfl⟩
  have hlen : l.length = s.size := by rw [← hl, data_len]
  obtain ⟨tp, htp⟩ : ∃ tp, Lib.trimPrefix l lTile = tp := ⟨_, rfl⟩
  obtain ⟨x1, y1, b1, hc1⟩ : ∃ x y b, Lib.cut tp lBar = (x, y, b) := ⟨_, _, _, rfl⟩
  obtain ⟨x2, y2, b2, hc2⟩ : ∃ x y b, Lib.cut y1 lPart = (x, y, b) := ⟨_, _, _, rfl⟩
  have n0 : tp.length ≤ l.length := by rw [← htp]; exact trim_len _ _
  have n1 := cut_len tp lBar
  have n2 := cut_len y1 lPart
  rw [hc1] at n1
  rw [hc2] at n2
  simp only [] at n1 n2
  have hpp := progP s (numI x1) (numI x2) (if b2 then numI y2 else 4) (.inl (by unfold tileP; rw [hl, htp, hc1]; simp only []; rw [hc2]))
  rw [hl] at hpp ⊢
  obtain ⟨PV, hPV⟩ : ∃ PV, parV l = PV := ⟨_, rfl⟩
  rw [hPV] at hpp ⊢
  have hT := Tryd.strings_TrimPrefix s ⟨#[116, 105, 108, 101, 47]⟩
  rw [hl, show (⟨#[116, 105, 108, 101, 47]⟩ : ByteArray).data.toList = lTile from rfl, htp] at hT
  have hC1 := fun m w' hm => Tryd.strings_Cut (btxt tp) ⟨#[47]⟩ m w' (by rw [btxt_size]; omega) hm
  rw [btxt_list, show (⟨#[47]⟩ : ByteArray).data.toList = lBar from rfl, hc1] at hC1
  have hC2 := fun m w' hm => Tryd.strings_Cut (btxt y1) ⟨#[46, 112, 47]⟩ m w' (by rw [btxt_size]; omega) hm
  rw [btxt_list, show (⟨#[46, 112, 47]⟩ : ByteArray).data.toList = lPart from rfl, hc2] at hC2
  have hN1 := Box.mk (fun w' h => pnum_any (btxt x1) B w' h (by rw [btxt_size]; omega))
  have hN2 := Box.mk (fun w' h => pnum_any (btxt x2) B w' h (by rw [btxt_size]; omega))
  have hN3 := Box.mk (fun w' h => pnum_any (btxt y2) B w' h (by rw [btxt_size]; omega))
  simp only [btxt_list] at hN1 hN2 hN3
  obtain ⟨L, hLe⟩ : ∃ L, numI x1 = L := ⟨_, rfl⟩
  obtain ⟨I, hIe⟩ : ∃ I, numI x2 = I := ⟨_, rfl⟩
  obtain ⟨Z, hZe⟩ : ∃ Z, numI y2 = Z := ⟨_, rfl⟩
  simp only [hLe] at hN1 hpp
  simp only [hIe] at hN2 hpp
  simp only [hZe] at hN3 hpp
  have hal := bel_alloc w (.cells #[.int .i64 0, .int .i64 0, .int .i64 0] 23)
  obtain ⟨k, hk⟩ := hE.m
  have hE1 := hE.here hB hal
  obtain ⟨k1, hk1⟩ := hE1.m
  have hC1' := hC1 k1 _ hk1
  replace hL := Box.mk hL
  replace hE := Box.mk hE
  replace hC2 := Box.mk hC2
  replace hpp := Box.mk hpp
  unfold btxt at hC1'
  clear hl hlen htp hc1 hc2 n0 n1 n2 hPV hLe hIe hZe hk hC1 hE1 hk1
  go_enter Tryd.func12, Tryd.ntmps12
  go_wp2_with fail
  refine (hT _).mono ?_
  clear hT
  rintro e w1 ⟨rfl, rfl⟩
  go_wp2_with fail
  refine hC1'.mono ?_
  clear hC1'
  rintro e w2 ⟨rfl, nq, hw2⟩
  have hb2 : Below w.heap.size w w2 := by rw [hw2]; exact mono_bel hal (Drawn.below ⟨nq, rfl⟩) (Nat.le_refl _)
  have hbk : Pk.Blk w2 w.heap.size [.int .i64 0, .int .i64 0, .int .i64 0] 23 := by rw [hw2]; exact Pk.Blk.new w _ _
  have hE2 := hE.out.here hB hb2
  obtain ⟨k2, hk2⟩ := hE2.m
  have hC2' := hC2.out k2 w2 hk2
  unfold btxt at hC2'
  replace hb2 := Box.mk hb2
  replace hbk := Box.mk hbk
  clear hw2 hal hC2 hE2 hk2
  go_wp2_with fail
  refine hC2'.mono ?_
  clear hC2'
  rintro e w3 ⟨rfl, nq3, hw3⟩
  have hd3 : Below w2.heap.size w2 w3 := by rw [hw3]; exact Drawn.below ⟨nq3, rfl⟩
  replace hbk := Box.mk ((hd3.block _ hbk.out.lt).trans hbk.out)
  replace hb2 := Box.mk (mono_bel hb2.out hd3 (Nat.le_refl _))
  have hNn := hN1.out w3 (hE.out.here hB hb2.out)
  unfold btxt at hNn
  clear hw3 hd3 hN1
  go_wp2_with fail
  refine hNn.mono ?_
  clear hNn
  rintro e w4 ⟨rfl, hb4⟩
  replace hbk := Box.mk ((hb4.block _ (Pk.Blk.lt hbk.out)).trans hbk.out)
  replace hb2 := Box.mk (mono_bel hb2.out hb4 (Nat.le_refl _))
  have hNn := hN2.out w4 (hE.out.here hB hb2.out)
  unfold btxt at hNn
  clear hb4 hN2
  go_wp2_with fail
  refine hNn.mono ?_
  clear hNn
  rintro e w5 ⟨rfl, hb5⟩
  replace hbk := Box.mk ((hb5.block _ (Pk.Blk.lt hbk.out)).trans hbk.out)
  replace hb2 := Box.mk (mono_bel hb2.out hb5 (Nat.le_refl _))
  clear hb5
  have hk5 := bel_alloc w5 (.cells #[.int .i64 L, .int .i64 I, .int .i64 4] 23)
  have hN3' := fun w' hb => hN3.out w' (hE.out.here hB (mono_bel hb2.out hb (Nat.le_refl _)))
  unfold btxt at hN3'
  replace hN3' := Box.mk hN3'
  have hQ0 : QS w w5.heap.size (.int .i64 L) (.int .i64 I) (.int .i64 4) (w5.alloc (.cells #[.int .i64 L, .int .i64 I, .int .i64 4] 23)) := ⟨(Below.heap_alloc _ _ _ (Pk.Blk.lt hbk.out)).trans hbk.out, Pk.Blk.new w5 [.int .i64 L, .int .i64 I, .int .i64 4] _, mono_bel hb2.out (bel_alloc _ _) (Nat.le_refl _), Pk.Blk.lt hbk.out⟩
  cases b2
  · clear hN3 hN3'
    obtain ⟨wq, hwq⟩ : ∃ wq, w5.alloc (.cells #[.int .i64 L, .int .i64 I, .int .i64 4] 23) = wq := ⟨_, rfl⟩
    have hQ := Box.mk hQ0
    rw [hwq] at hQ
    obtain ⟨bt, hbt⟩ : ∃ bt, w5.heap.size = bt := ⟨_, rfl⟩
    rw [hbt] at hQ
    clear hQ0 hk5 hb2 hbk
    obtain ⟨c0, c1, c2, f2, d0, d1, d2, g0, g1, g2⟩ := hQ.out.cells
    have hGd := good_any L I 4 wq
    have hPth := fun w' hb => path_any L I 4 B w' (hL.out.here (hQ.out.on hb).bel hB) (Nat.le_trans hB (hQ.out.on hb).bel.size)
    unfold tv at hGd hPth
    have hpp2 := hpp.out
    simp only [Bool.false_eq_true, if_false] at hpp2
    replace hPth := Box.mk hPth
    cases ho : okT L I 4 with
    | false =>
      rw [ho] at hGd hpp2
      rw [if_neg (by simp)] at hpp2
      replace hpp2 := Box.mk hpp2
      clear hPth ho
      go_wp2_with fail
      refine hGd.mono ?_
      clear hGd c0 c1 c2 f2 d0 d1 d2 g0 g1 g2
      rintro e w8 ⟨rfl, hb8⟩
      replace hQ := Box.mk (hQ.out.on hb8)
      obtain ⟨c0, c1, c2, f2, d0, d1, d2, g0, g1, g2⟩ := hQ.out.cells
      clear hb8
      go_wp2_with fail
      have hf := hQ.out.out (.int .i64 0) (.int .i64 0) (.int .i64 0)
      obtain ⟨wf, hwf⟩ : ∃ wf, PS.fin w w8 (.int .i64 0) (.int .i64 0) (.int .i64 0) = wf := ⟨_, rfl⟩
      rw [hwf] at hf
      unfold PS.fin at hwf
      rw [hwf]
      obtain ⟨k0, k1, k2, hbf⟩ := hf
      clear c0 c1 c2 f2 d0 d1 d2 g0 g1 g2 hwf
      refine bodyPost_ret (v := .tuple #[tv 0 0 0, .int .i64 3]) (by simp [results, Tryd.results12, go_sem, k0, k1, k2]; try rfl) rfl ⟨by rw [hpp2.out], hbf⟩
    | true =>
      rw [ho] at hGd hpp2
      clear ho
      obtain ⟨Q, hQe⟩ : ∃ Q, pathT L I 4 = Q := ⟨_, rfl⟩
      simp only [hQe] at hPth hpp2
      go_wp2_with fail
      refine hGd.mono ?_
      clear hGd c0 c1 c2 f2 d0 d1 d2 g0 g1 g2
      rintro e w8 ⟨rfl, hb8⟩
      have hPt8 := hPth.out w8 hb8
      replace hQ := Box.mk (hQ.out.on hb8)
      obtain ⟨c0, c1, c2, f2, d0, d1, d2, g0, g1, g2⟩ := hQ.out.cells
      clear hb8 hPth
      go_wp2_with fail
      refine hPt8.mono ?_
      clear hPt8 c0 c1 c2 f2 d0 d1 d2 g0 g1 g2
      rintro e w9 ⟨rfl, hb9⟩
      replace hQ := Box.mk (hQ.out.on hb9)
      obtain ⟨c0, c1, c2, f2, d0, d1, d2, g0, g1, g2⟩ := hQ.out.cells
      clear hb9
      have hqs := tl_eq Q s
      by_cases hx : Q = s
      · rw [if_pos ⟨trivial, hx⟩] at hpp2
        have hq2 : (Q.toList != s.toList) = false := by rw [bne, hqs, decide_eq_true hx]; rfl
        rw [decide_eq_true hx] at hqs
        replace hpp2 := Box.mk hpp2
        clear hx
        go_wp2_with fail
        have hf := hQ.out.out (.int .i64 L) (.int .i64 I) (.int .i64 4)
        obtain ⟨wf, hwf⟩ : ∃ wf, PS.fin w w9 (.int .i64 L) (.int .i64 I) (.int .i64 4) = wf := ⟨_, rfl⟩
        rw [hwf] at hf
        unfold PS.fin at hwf
        rw [hwf]
        obtain ⟨k0, k1, k2, hbf⟩ := hf
        clear c0 c1 c2 f2 d0 d1 d2 g0 g1 g2 hwf
        refine bodyPost_ret (v := .tuple #[tv L I 4, .int .i64 0]) (by simp [results, Tryd.results12, go_sem, k0, k1, k2]; try rfl) rfl ⟨by rw [hpp2.out], hbf⟩
      · rw [if_neg (fun h => hx h.2)] at hpp2
        have hq2 : (Q.toList != s.toList) = true := by rw [bne, hqs, decide_eq_false hx]; rfl
        rw [decide_eq_false hx] at hqs
        replace hpp2 := Box.mk hpp2
        clear hx
        go_wp2_with fail
        have hf := hQ.out.out (.int .i64 0) (.int .i64 0) (.int .i64 0)
        obtain ⟨wf, hwf⟩ : ∃ wf, PS.fin w w9 (.int .i64 0) (.int .i64 0) (.int .i64 0) = wf := ⟨_, rfl⟩
        rw [hwf] at hf
        unfold PS.fin at hwf
        rw [hwf]
        obtain ⟨k0, k1, k2, hbf⟩ := hf
        clear c0 c1 c2 f2 d0 d1 d2 g0 g1 g2 hwf
        refine bodyPost_ret (v := .tuple #[tv 0 0 0, .int .i64 3]) (by simp [results, Tryd.results12, go_sem, k0, k1, k2]; try rfl) rfl ⟨by rw [hpp2.out], hbf⟩
  · clear hN3
    have hNn := hN3'.out _ hk5
    clear hN3' hk5
    go_wp2_with fail
    refine hNn.mono ?_
    clear hNn
    rintro e w6 ⟨rfl, hb6⟩
    have hQ1 := Box.mk (hQ0.on hb6)
    obtain ⟨bt, hbt⟩ : ∃ bt, w5.heap.size = bt := ⟨_, rfl⟩
    rw [hbt] at hQ1
    obtain ⟨_, _, r2, s2, _⟩ := hQ1.out.cells
    have hQ := Box.mk (hQ1.out.set2 (.int .i64 Z))
    obtain ⟨wq, hwq⟩ : ∃ wq, w6.setCell ⟨bt, 2, none⟩ (.int .i64 Z) = wq := ⟨_, rfl⟩
    rw [hwq] at hQ
    clear hQ0 hb2 hbk hb6 hQ1
    obtain ⟨c0, c1, c2, f2, d0, d1, d2, g0, g1, g2⟩ := hQ.out.cells
    have hGd := good_any L I Z wq
    have hPth := fun w' hb => path_any L I Z B w' (hL.out.here (hQ.out.on hb).bel hB) (Nat.le_trans hB (hQ.out.on hb).bel.size)
    unfold tv at hGd hPth
    have hpp2 := hpp.out
    simp only [if_true] at hpp2
    replace hPth := Box.mk hPth
    cases ho : okT L I Z with
    | false =>
      rw [ho] at hGd hpp2
      rw [if_neg (by simp)] at hpp2
      replace hpp2 := Box.mk hpp2
      clear hPth ho
      go_wp2_with fail
      refine hGd.mono ?_
      clear hGd c0 c1 c2 f2 d0 d1 d2 g0 g1 g2
      rintro e w8 ⟨rfl, hb8⟩
      replace hQ := Box.mk (hQ.out.on hb8)
      obtain ⟨c0, c1, c2, f2, d0, d1, d2, g0, g1, g2⟩ := hQ.out.cells
      clear hb8
      go_wp2_with fail
      have hf := hQ.out.out (.int .i64 0) (.int .i64 0) (.int .i64 0)
      obtain ⟨wf, hwf⟩ : ∃ wf, PS.fin w w8 (.int .i64 0) (.int .i64 0) (.int .i64 0) = wf := ⟨_, rfl⟩
      rw [hwf] at hf
      unfold PS.fin at hwf
      rw [hwf]
      obtain ⟨k0, k1, k2, hbf⟩ := hf
      clear c0 c1 c2 f2 d0 d1 d2 g0 g1 g2 hwf
      refine bodyPost_ret (v := .tuple #[tv 0 0 0, .int .i64 3]) (by simp [results, Tryd.results12, go_sem, k0, k1, k2]; try rfl) rfl ⟨by rw [hpp2.out], hbf⟩
    | true =>
      rw [ho] at hGd hpp2
      clear ho
      obtain ⟨Q, hQe⟩ : ∃ Q, pathT L I Z = Q := ⟨_, rfl⟩
      simp only [hQe] at hPth hpp2
      go_wp2_with fail
      refine hGd.mono ?_
      clear hGd c0 c1 c2 f2 d0 d1 d2 g0 g1 g2
      rintro e w8 ⟨rfl, hb8⟩
      have hPt8 := hPth.out w8 hb8
      replace hQ := Box.mk (hQ.out.on hb8)
      obtain ⟨c0, c1, c2, f2, d0, d1, d2, g0, g1, g2⟩ := hQ.out.cells
      clear hb8 hPth
      go_wp2_with fail
      refine hPt8.mono ?_
      clear hPt8 c0 c1 c2 f2 d0 d1 d2 g0 g1 g2
      rintro e w9 ⟨rfl, hb9⟩
      replace hQ := Box.mk (hQ.out.on hb9)
      obtain ⟨c0, c1, c2, f2, d0, d1, d2, g0, g1, g2⟩ := hQ.out.cells
      clear hb9
      have hqs := tl_eq Q s
      by_cases hx : Q = s
      · rw [if_pos ⟨trivial, hx⟩] at hpp2
        have hq2 : (Q.toList != s.toList) = false := by rw [bne, hqs, decide_eq_true hx]; rfl
        rw [decide_eq_true hx] at hqs
        replace hpp2 := Box.mk hpp2
        clear hx
        go_wp2_with fail
        have hf := hQ.out.out (.int .i64 L) (.int .i64 I) (.int .i64 Z)
        obtain ⟨wf, hwf⟩ : ∃ wf, PS.fin w w9 (.int .i64 L) (.int .i64 I) (.int .i64 Z) = wf := ⟨_, rfl⟩
        rw [hwf] at hf
        unfold PS.fin at hwf
        rw [hwf]
        obtain ⟨k0, k1, k2, hbf⟩ := hf
        clear c0 c1 c2 f2 d0 d1 d2 g0 g1 g2 hwf
        refine bodyPost_ret (v := .tuple #[tv L I Z, .int .i64 0]) (by simp [results, Tryd.results12, go_sem, k0, k1, k2]; try rfl) rfl ⟨by rw [hpp2.out], hbf⟩
      · rw [if_neg (fun h => hx h.2)] at hpp2
        have hq2 : (Q.toList != s.toList) = true := by rw [bne, hqs, decide_eq_false hx]; rfl
        rw [decide_eq_false hx] at hqs
        replace hpp2 := Box.mk hpp2
        clear hx
        go_wp2_with fail
        have hf := hQ.out.out (.int .i64 0) (.int .i64 0) (.int .i64 0)
        obtain ⟨wf, hwf⟩ : ∃ wf, PS.fin w w9 (.int .i64 0) (.int .i64 0) (.int .i64 0) = wf := ⟨_, rfl⟩
        rw [hwf] at hf
        unfold PS.fin at hwf
        rw [hwf]
        obtain ⟨k0, k1, k2, hbf⟩ := hf
        clear c0 c1 c2 f2 d0 d1 d2 g0 g1 g2 hwf
        refine bodyPost_ret (v := .tuple #[tv 0 0 0, .int .i64 3]) (by simp [results, Tryd.results12, go_sem, k0, k1, k2]; try rfl) rfl ⟨by rw [hpp2.out], hbf⟩
end Go.Proofs.YtlkopllpadhnlaaDoor

namespace Go.Proofs.YtlkopllpadhnlaaDoor
open Go Go.ChangeShapes Go.WideShapes Go.ChangeAt Go.RowKit Go.ChangeMaps

set_option maxRecDepth 100000 in
theorem tl_open {H : Type} {enc : TypeId × Value → H} {W : World} {base : Nat} {v : Value} {d : DataW H} {p : List MemPlace}
    (hv : Value.okWide Tryd.prog W .any base 23 v) (h : DataW.Trod enc Tryd.prog W 0 (fun _ => true) true 23 v d p) :
    ∃ L I Z : Int, v = .agg #[.int .i64 L, .int .i64 I, .int .i64 Z] := by
  obtain ⟨cs, rfl, hcs⟩ := okWide_struct Tryd.underlying23 hv
  obtain ⟨fuel, hf⟩ := h
  obtain ⟨xs, m, _, hx, hl, hn, hF⟩ := DataW.trod_struct Tryd.underlying23 hf
  rw [show Tryd.prog.cellsOf 23 = 3 by kernel_rfl] at hl
  have hc : ∃ L I Z : Int, (Value.agg cs).cells.toList = [.int .i64 L, .int .i64 I, .int .i64 Z] := by
    generalize (Value.agg cs).cells.toList = ds at *
    match ds, hl, xs, hn with
    | [c0, c1, c2], _, [x0, x1, x2], _ =>
      have g0 : DataW.trod enc Tryd.prog W 0 (fun _ => true) true m 3 (([c0, c1, c2].drop 0).take (Tryd.prog.cellsOf 3)) = some x0 := hF 0 _ rfl
      have g1 : DataW.trod enc Tryd.prog W 0 (fun _ => true) true m 3 (([c0, c1, c2].drop 1).take (Tryd.prog.cellsOf 3)) = some x1 := hF 1 _ rfl
      have g2 : DataW.trod enc Tryd.prog W 0 (fun _ => true) true m 3 (([c0, c1, c2].drop 2).take (Tryd.prog.cellsOf 3)) = some x2 := hF 2 _ rfl
      have z3 : Tryd.prog.cellsOf 3 = 1 := by kernel_rfl
      rw [z3] at g0 g1 g2
      obtain ⟨a, e0, y0, w0⟩ := DataW.trod_int Tryd.underlying3 g0
      obtain ⟨b, e1, y1, w1⟩ := DataW.trod_int Tryd.underlying3 g1
      obtain ⟨c, e2, y2, w2⟩ := DataW.trod_int Tryd.underlying3 g2
      simp [List.take, List.drop] at e0 e1 e2
      subst e0 e1 e2
      exact ⟨a, b, c, rfl⟩
  obtain ⟨L, I, Z, hc⟩ := hc
  refine ⟨L, I, Z, ?_⟩
  congr 1
  apply Array.ext'
  simpa [Value.cells] using hc
end Go.Proofs.YtlkopllpadhnlaaDoor

namespace Go.Proofs.YtlkopllpadhnlaaDoor
open Go Go.ChangeShapes Go.WideShapes Go.ChangeAt Go.RowKit Go.ChangeMaps

abbrev sx {H : Type} : List (String × DataW H) := [("math/bits.deBruijn32tab", Rows.laid_math_bits_deBruijn32tab), ("math/bits.deBruijn64tab", Rows.laid_math_bits_deBruijn64tab), ("internal/strconv.uint64pow10", Rows.laid_internal_strconv_uint64pow10), ("ostler/sha.roundWords", Rows.laid_ostler_sha_roundWords), ("strconv.ErrRange", Rows.laid_strconv_ErrRange), ("strconv.ErrSyntax", Rows.laid_strconv_ErrSyntax)]
theorem met_four {W : World} (h : laidMetH Tryd.prog sx W) :
    laidMetH Tryd.prog [("math/bits.deBruijn32tab", Rows.laid_math_bits_deBruijn32tab), ("math/bits.deBruijn64tab", Rows.laid_math_bits_deBruijn64tab), ("internal/strconv.uint64pow10", Rows.laid_internal_strconv_uint64pow10), ("ostler/sha.roundWords", Rows.laid_ostler_sha_roundWords)] W :=
  h.filter fun x => !(x.1 == "strconv.ErrRange" || x.1 == "strconv.ErrSyntax")
theorem met_range {W : World} (h : laidMetH Tryd.prog sx W) : laidMet Tryd.prog [("strconv.ErrRange", Rows.laid_strconv_ErrRange)] W := h.filter fun x => x.1 == "strconv.ErrRange"
theorem met_syntax {W : World} (h : laidMetH Tryd.prog sx W) : laidMet Tryd.prog [("strconv.ErrSyntax", Rows.laid_strconv_ErrSyntax)] W := h.filter fun x => x.1 == "strconv.ErrSyntax"
theorem gER : Tryd.prog.globalNamed "strconv.ErrRange" = some 3 := by kernel_rfl
theorem gES : Tryd.prog.globalNamed "strconv.ErrSyntax" = some 2 := by kernel_rfl
theorem gERType : (Tryd.prog.globals[3]?).map (·.type) = some 84 := by kernel_rfl
theorem gESType : (Tryd.prog.globals[2]?).map (·.type) = some 84 := by kernel_rfl
theorem starES : "*" ++ "errors.errorString" = "*errors.errorString" := by decide
theorem rowES (u : TypeId) (h : Tryd.prog.typeName? 3 u = some "*errors.errorString") : u = 173 :=
  typeName_ptr_named (nm := "errors.errorString") (by rw [starES]; kernel_rfl) (by kernel_rfl) (by decide) u (by rw [starES]; exact h)
theorem cellsES : Tryd.prog.cellsOf 175 = 1 := by kernel_rfl
theorem cellsStr : Tryd.prog.cellsOf 9 = 1 := by kernel_rfl
theorem erV {W : World} (h : laidMetH Tryd.prog sx W) (hsh : W.ShapedOpen Tryd.prog) : ErV W.heap.size W := by
  obtain ⟨a0, s0, hv0, -, -, -⟩ := laid_sentinel (met_range h) gER gERType Tryd.underlying84 rowES Tryd.underlying173 Tryd.underlying175 rfl rfl Tryd.underlying9 cellsES cellsStr
  obtain ⟨a1, s1, hv1, -, -, -⟩ := laid_sentinel (met_syntax h) gES gESType Tryd.underlying84 rowES Tryd.underlying173 Tryd.underlying175 rfl rfl Tryd.underlying9 cellsES cellsStr
  have h0 := World.var?_cell gER hv0 0
  have h1 := World.var?_cell gES hv1 0
  simp at h0 h1
  obtain ⟨m, hm⟩ : ∃ m, W.cell? ⟨0, 0, none⟩ = some (.int .i64 m) :=
    cell_of_shapedOpen_int (t := 3) (zero := #[.int .i64 0]) hsh (of_decide_eq_true (by kernel_rfl)) (by kernel_rfl) rfl (by kernel_rfl) (by kernel_rfl) Tryd.underlying3
  exact ⟨⟨_, _, h1⟩, ⟨_, _, h0⟩, ⟨m, hm⟩, block_lt_of_cell h1, block_lt_of_cell h0, block_lt_of_cell hm⟩
/-- So many blocks has the settled world. -/
noncomputable def low : Nat := (World.holding Tryd.prog default ⟨#[], #[], []⟩).heap.size
/-- Two blocks more, each an errors.errorString. -/
noncomputable def heap6 (os : Os) : Array Obj :=
  ((laidWorld4 os).heap.push (.cells #[.string ⟨#[118, 97, 108, 117, 101, 32, 111, 117, 116, 32, 111, 102, 32, 114, 97, 110, 103, 101]⟩] 175)).push (.cells #[.string ⟨#[105, 110, 118, 97, 108, 105, 100, 32, 115, 121, 110, 116, 97, 120]⟩] 175)
/-- A sentinel's cell set. -/
noncomputable def setES (a : Nat) : Obj → Obj
  | .cells _ t frozen => .cells #[.iface 173 (.pointer (some ⟨a, 0, none⟩))] t frozen
  | o => o
/-- A world for the witness: that of four tables; the sentinels point to the two blocks more. -/
noncomputable def laidWorld6 (os : Os) : World :=
  { laidWorld4 os with heap := ((heap6 os).modify 3 (setES low)).modify 2 (setES (low + 1)) }
end Go.Proofs.YtlkopllpadhnlaaDoor

namespace Go.Proofs.YtlkopllpadhnlaaDoor
open Go Go.RowKit

theorem parV_shape (l : List UInt8) : ∃ a b c e : Int, parV l = .tuple #[tv a b c, .int .i64 e] := by
  unfold parV
  split
  · exact ⟨_, _, _, _, rfl⟩
  · exact ⟨_, _, _, _, rfl⟩
set_option maxHeartbeats 6400000 in
set_option maxRecDepth 100000 in
theorem law_paths (L I Z : Int) (s : ByteArray) (W : World) (hL : Ld W.heap.size W) (hE : ErV W.heap.size W) (hs : s.size < 4294967281) :
    Calls Tryd.prog 3 #[.agg #[.int .i64 L, .int .i64 I, .int .i64 Z], .string s] W fun e W' => e = .returned (.bool true) ∧ Below W.heap.size W W' := by
  have hal := bel_alloc W (.cells #[.int .i64 L, .int .i64 I, .int .i64 Z] 23)
  have hbx := Pk.Blk.new W [.int .i64 L, .int .i64 I, .int .i64 Z] 23
  have hR := reads_any W.heap.size _ (hL.here hal (Nat.le_refl _)) hal.size
  have hP1 := Box.mk (fun w' (hb : Below W.heap.size W w') => path_any L I Z W.heap.size w' (hL.here hb (Nat.le_refl _)) hb.size)
  have hP2 := Box.mk (fun w' (hb : Below W.heap.size W w') => dpath_any L I Z W.heap.size w' (hL.here hb (Nat.le_refl _)) hb.size)
  have hQ1 := Box.mk (fun w' (hb : Below W.heap.size W w') => pparse_any s W.heap.size w' (hL.here hb (Nat.le_refl _)) (hE.below hb) hb.size hs)
  have hQ2 := Box.mk (fun w' (hb : Below W.heap.size W w') => dparse_any s W.heap.size w' (hL.here hb (Nat.le_refl _)) hb.size (by omega))
  have hps : (pathT L I Z).size ≤ 100 := by
    cases ho : okT L I Z with
    | true => exact path_size ho
    | false => unfold pathT; rw [ho]; exact Nat.zero_le _
  have hQ3 := Box.mk (fun w' (hb : Below W.heap.size W w') => pparse_any (pathT L I Z) W.heap.size w' (hL.here hb (Nat.le_refl _)) (hE.below hb) hb.size (by omega))
  obtain ⟨u0, u1, u2, ue, hu⟩ := parV_shape s.data.toList
  obtain ⟨v0, v1, v2, ve, hv⟩ := parV_shape (pathT L I Z).data.toList
  have hend : Box ((pathT L I Z).toList.isEmpty = true ∨ ((pathT L I Z).toList.isEmpty = false ∧ v0 = L ∧ v1 = I ∧ v2 = Z ∧ ve = 0)) := ⟨by
    cases ho : okT L I Z with
    | false => left; unfold pathT; rw [ho, if_neg (by simp)]; simp
    | true =>
      right
      have h1 := parse_path L I Z ho
      unfold parV at hv
      rw [h1] at hv
      simp only [tv] at hv
      refine ⟨?_, ?_⟩
      · cases hp : (pathT L I Z).toList with
        | nil =>
          have h2 : (pathT L I Z).data.toList = [] := by rw [← ByteArray.toList_eq]; exact hp
          rw [h2] at h1
          cases h1
        | cons _ _ => rfl
      · simp at hv
        obtain ⟨⟨h3, h4, h5⟩, h6⟩ := hv
        exact ⟨h3.symm, h4.symm, h5.symm, h6.symm⟩⟩
  simp only [hu] at hQ1 hQ2
  simp only [hv] at hQ3
  obtain ⟨p, hp⟩ : ∃ p, pathT L I Z = p := ⟨_, rfl⟩
  simp only [hp] at hP1 hP2 hQ3 hend
  unfold tv at hP1 hP2 hQ1 hQ2 hQ3
  have hpq : (p.toList != p.toList) = false := by simp
  replace hbx := Box.mk hbx
  replace hal := Box.mk hal
  clear hu hv hp hps hL hE
  go_enter Tryd.func3, Tryd.ntmps3
  go_wp2_with fail
  refine hR.mono ?_
  clear hR
  rintro e w1 ⟨rfl, hb1⟩
  replace hbx := Box.mk ((hb1.block _ (Pk.Blk.lt hbx.out)).trans hbx.out)
  replace hal := Box.mk (mono_bel hal.out hb1 (Nat.le_refl _))
  have b0 := Pk.Blk.cell hbx.out 0
  have b1 := Pk.Blk.cell hbx.out 1
  have b2 := Pk.Blk.cell hbx.out 2
  simp only [List.getElem?_cons_zero, List.getElem?_cons_succ] at b0 b1 b2
  have hC := hP1.out w1 hal.out
  clear hb1 hP1
  go_wp2_with fail
  refine hC.mono ?_
  clear hC b0 b1 b2
  rintro e w2 ⟨rfl, hb1⟩
  replace hbx := Box.mk ((hb1.block _ (Pk.Blk.lt hbx.out)).trans hbx.out)
  replace hal := Box.mk (mono_bel hal.out hb1 (Nat.le_refl _))
  have b0 := Pk.Blk.cell hbx.out 0
  have b1 := Pk.Blk.cell hbx.out 1
  have b2 := Pk.Blk.cell hbx.out 2
  simp only [List.getElem?_cons_zero, List.getElem?_cons_succ] at b0 b1 b2
  have hC := hP2.out w2 hal.out
  clear hb1 hP2
  go_wp2_with fail
  refine hC.mono ?_
  clear hC b0 b1 b2
  rintro e w3 ⟨rfl, hb1⟩
  replace hbx := Box.mk ((hb1.block _ (Pk.Blk.lt hbx.out)).trans hbx.out)
  replace hal := Box.mk (mono_bel hal.out hb1 (Nat.le_refl _))
  have hC := hQ1.out w3 hal.out
  clear hb1 hQ1
  go_wp2_with fail
  refine hC.mono ?_
  clear hC
  rintro e w4 ⟨rfl, hb1⟩
  have hb2 := mono_bel hb1 (bel_alloc w4 (.cells #[.int .i64 u0, .int .i64 u1, .int .i64 u2] 23)) (Nat.le_refl _)
  replace hbx := Box.mk ((hb2.block _ (Pk.Blk.lt hbx.out)).trans hbx.out)
  replace hal := Box.mk (mono_bel hal.out hb2 (Nat.le_refl _))
  have hbu := Box.mk (Pk.Blk.new w4 [.int .i64 u0, .int .i64 u1, .int .i64 u2] 23)
  have hC := hQ2.out _ hal.out
  clear hb1 hb2 hQ2
  go_wp2_with fail
  refine hC.mono ?_
  clear hC
  rintro e w5 ⟨rfl, hb1⟩
  have hb2 := mono_bel hb1 (bel_alloc w5 (.cells #[.int .i64 u0, .int .i64 u1, .int .i64 u2] 26)) (Nat.le_refl _)
  replace hbx := Box.mk ((hb2.block _ (Pk.Blk.lt hbx.out)).trans hbx.out)
  replace hbu := Box.mk ((hb2.block _ (Pk.Blk.lt hbu.out)).trans hbu.out)
  replace hal := Box.mk (mono_bel hal.out hb2 (Nat.le_refl _))
  have hbw := Box.mk (Pk.Blk.new w5 [.int .i64 u0, .int .i64 u1, .int .i64 u2] 26)
  have hC := hQ3.out _ hal.out
  clear hb1 hb2 hQ3
  go_wp2_with fail
  refine hC.mono ?_
  clear hC
  rintro e w6 ⟨rfl, hb1⟩
  have hb2 := mono_bel hb1 (bel_alloc w6 (.cells #[.int .i64 v0, .int .i64 v1, .int .i64 v2] 23)) (Nat.le_refl _)
  replace hbx := Box.mk ((hb2.block _ (Pk.Blk.lt hbx.out)).trans hbx.out)
  replace hbu := Box.mk ((hb2.block _ (Pk.Blk.lt hbu.out)).trans hbu.out)
  replace hbw := Box.mk ((hb2.block _ (Pk.Blk.lt hbw.out)).trans hbw.out)
  replace hal := Box.mk (mono_bel hal.out hb2 (Nat.le_refl _))
  have hbv := Box.mk (Pk.Blk.new w6 [.int .i64 v0, .int .i64 v1, .int .i64 v2] 23)
  clear hb1 hb2
  obtain ⟨wz, hwz⟩ : ∃ wz, w6.alloc (.cells #[.int .i64 v0, .int .i64 v1, .int .i64 v2] 23) = wz := ⟨_, rfl⟩
  rw [hwz] at hbx hbu hbw hbv hal
  obtain ⟨gu, hgu⟩ : ∃ g, w4.heap.size = g := ⟨_, rfl⟩
  obtain ⟨gw, hgw⟩ : ∃ g, w5.heap.size = g := ⟨_, rfl⟩
  obtain ⟨gv, hgv⟩ : ∃ g, w6.heap.size = g := ⟨_, rfl⟩
  rw [hgu] at hbu
  rw [hgw] at hbw
  rw [hgv] at hbv
  have a0 := Pk.Blk.cell hbx.out 0
  have a1 := Pk.Blk.cell hbx.out 1
  have a2 := Pk.Blk.cell hbx.out 2
  have b0 := Pk.Blk.cell hbu.out 0
  have b1 := Pk.Blk.cell hbu.out 1
  have b2 := Pk.Blk.cell hbu.out 2
  have c0 := Pk.Blk.cell hbw.out 0
  have c1 := Pk.Blk.cell hbw.out 1
  have c2 := Pk.Blk.cell hbw.out 2
  have d0 := Pk.Blk.cell hbv.out 0
  have d1 := Pk.Blk.cell hbv.out 1
  have d2 := Pk.Blk.cell hbv.out 2
  simp only [List.getElem?_cons_zero, List.getElem?_cons_succ] at a0 a1 a2 b0 b1 b2 c0 c1 c2 d0 d1 d2
  rcases hend.out with h | ⟨h, rfl, rfl, rfl, rfl⟩
  · clear hend hbx hbu hbw hbv
    go_wp2_with fail
    go_ret
    exact ⟨rfl, hal.out⟩
  · clear hend hbx hbu hbw hbv
    go_wp2_with fail
    go_ret
    exact ⟨rfl, hal.out⟩
end Go.Proofs.YtlkopllpadhnlaaDoor
