/- The example signatures of law 7: a []By that came in, the ring, what is signed (any signatures, spoilt ones too). | A []By that came in. -/
import Derived.Lib.ConvBytes
import Derived.Deep.Slices
import Derived.Deep.DeepHandedRow
import Derived.SliceStrings
import Derived.SizedLaws
import Derived.OpenShut
import Derived.ChangeMaps5
import Derived.Test.YtkchaflijlmpgaaGreatDoorMQc
namespace Go.Proofs.YtkchaflijlmpgaaGreatDoor
open Go Go.RowKit

/-- A row of bytes whose cells may be written over. -/
def ByAt (w : World) (g : Nat) (l : List UInt8) : Prop := ∃ (cur : Array Value) (fz : Nat × Nat), w.heap[g]? = some (.cells cur 5 fz) ∧ l.length ≤ fz.1 ∧ ∀ j, j < l.length → cur[j]? = (l.map yc)[j]?
theorem bytesWorld_belowL (w : World) (e : TypeId) (s : ByteArray) : Below w.heap.size w (Lib.bytesWorld w e s) :=
  ⟨rfl, rfl, rfl, by rw [Lib.bytesWorld_size]; omega, fun k hk => Lib.bytesWorld_at_old w e s k hk⟩
theorem ByAt.made (w : World) (s : ByteArray) : ByAt (Lib.bytesWorld w 5 s) w.heap.size s.data.toList := by
  have hge := grownCap_ge w s.size 0 5
  have hl : s.data.toList.length = s.size := data_len s
  have hz : s.data.size = s.size := rfl
  refine ⟨Lib.bytesCells w 5 s, _, Lib.bytesWorld_at_new w _ s, by simp [Lib.bytesCells], fun j hj => ?_⟩
  rw [Lib.bytesCells, Array.getElem?_append_left (by simp; omega)]
  simp only [Array.getElem?_map, List.getElem?_map, Array.getElem?_toList]
  rfl
theorem ByAt.lt {w : World} {g : Nat} {l : List UInt8} (h : ByAt w g l) : g < w.heap.size := by
  obtain ⟨_, _, hg, _⟩ := h
  exact (Array.getElem?_eq_some_iff.1 hg).1
theorem ByAt.ty {w : World} {g : Nat} {l : List UInt8} (h : ByAt w g l) : ∃ cs fz, w.heap[g]? = some (.cells cs 5 fz) := by
  obtain ⟨cs, fz, hg, _⟩ := h
  exact ⟨cs, fz, hg⟩
theorem ByAt.of {w w' : World} {g : Nat} {l : List UInt8} (h : ByAt w g l) (he : w'.heap[g]? = w.heap[g]?) : ByAt w' g l := by
  obtain ⟨cs, fz, hg, r⟩ := h
  exact ⟨cs, fz, he.trans hg, r⟩
theorem ByAt.here {w w' : World} {g : Nat} {l : List UInt8} (h : ByAt w g l) (hb : Below w.heap.size w w') : ByAt w' g l := h.of (hb.block g h.lt)
theorem ByAt.cell {w : World} {g : Nat} {l : List UInt8} (h : ByAt w g l) (j : Nat) (hj : j < l.length) : w.cell? ⟨g, j, none⟩ = some (.int .u8 (((l[j]).toNat : Nat) : Int)) := by
  obtain ⟨cs, fz, hg, _, hc⟩ := h
  rw [cell_of_row w g j cs _ _ hg, hc j hj]
  simp [hj, yc, Y]
theorem ByAt.free {w : World} {g : Nat} {l : List UInt8} (h : ByAt w g l) (j : Nat) (hj : j < l.length) : w.frozen? ⟨g, j, none⟩ = false := by
  obtain ⟨cs, fz, hg, hf, _⟩ := h
  unfold World.frozen?
  simp only [hg]
  simp; omega
theorem ByAt.text {w : World} {g : Nat} {l : List UInt8} (h : ByAt w g l) (c : Nat) : (convert 50 9 (.slice (some ⟨g, 0, none⟩) l.length c)).run Tryz.prog w = .ok (.string ⟨l.toArray⟩) w := by
  have hc : ∀ i, i < l.length → w.cell? ⟨g, 0 + i, none⟩ = some (.int .u8 ((l.map Y).getD i 0)) := by
    intro i hi
    rw [Nat.zero_add, h.cell i hi]
    simp [List.getD, hi]
    rfl
  have := run_convert_bytes_arg (P := Tryz.prog) w 50 5 Tryz.underlying50 Tryz.underlying5 g 0 l.length c (l.map Y) (by simp) hc 9 Tryz.underlying9
  rw [Y_back] at this; exact this
theorem ByAt.set {w : World} {g : Nat} {l : List UInt8} (h : ByAt w g l) (j : Nat) (x : UInt8) : ByAt (w.setCell ⟨g, j, none⟩ (.int .u8 ((x.toNat : Nat) : Int))) g (l.set j x) := by
  obtain ⟨cs, fz, hg, hf, hc⟩ := h
  refine ⟨cs.setIfInBounds j (.int .u8 ((x.toNat : Nat) : Int)), fz, by simp [World.setCell, Array.getElem?_modify, hg], by simpa using hf, fun i hi => ?_⟩
  rw [List.length_set] at hi
  have h1 := hc i hi
  by_cases hji : j = i
  · subst hji
    have hlt : j < cs.size := by
      rcases Nat.lt_or_ge j cs.size with h | h
      · exact h
      · rw [Array.getElem?_eq_none h] at h1
        simp [hi] at h1
    simp [hi, hlt, yc, Y]
  · simpa [Array.getElem?_setIfInBounds_ne hji, List.getElem?_set_ne hji] using h1
theorem xor8 (a b : Nat) : ∃ y : UInt8, bits .xor .u8 (a : Int) (b : Int) = ((y.toNat : Nat) : Int) := by
  refine ⟨UInt8.ofNat (BitVec.ofInt 8 (a : Int) ^^^ BitVec.ofInt 8 (b : Int)).toNat, ?_⟩
  show IntKind.u8.wrap ((BitVec.ofInt 8 (a : Int) ^^^ BitVec.ofInt 8 (b : Int)).toNat : Int) = _
  rw [IntKind.wrap_u8, UInt8.toNat_ofNat']
  omega
theorem ByAt.text' {w : World} {g n : Nat} {l : List UInt8} (h : ByAt w g l) (hn : l.length = n) (c : Nat) {z : ByteArray} (hz : z = ⟨l.toArray⟩) : (convert 50 9 (.slice (some ⟨g, 0, none⟩) n c)).run Tryz.prog w = .ok (.string z) w := by
  subst hn hz
  exact h.text c

/-- One of a []By. -/
structure ByR where
  k : Nat
  m : Nat
  t : ByteArray
  p : Nat
  b : Nat
instance : Inhabited ByR := ⟨⟨0, 0, ByteArray.empty, 0, 0⟩⟩
def ByR.cs (r : ByR) : List Value := [.int .u8 (r.k : Int), .int .u8 (r.m : Int), .string r.t, .int .u16 (r.p : Int), .int .u8 (r.b : Int)]
def ByR.ok (r : ByR) : Prop := r.k < 256 ∧ r.m < 256 ∧ r.p < 65536 ∧ r.b < 256 ∧ r.t.size ≤ 140737488351232
structure BysAt (w : World) (v : Value) (bs : List ByR) : Prop where
  ex : ∃ (a : Option Addr) (cap : Nat), v = .slice a bs.length cap ∧ bs.length ≤ cap ∧ cap ≤ maxLen ∧ (a = none → cap = 0) ∧ (0 < bs.length → ∃ blk off, a = some ⟨blk, off, none⟩ ∧ blk < w.heap.size ∧ ∀ i, i < bs.length → ∀ j u, (bs.getD i default).cs[j]? = some u → w.cell? ⟨blk, off + i * 5 + j, none⟩ = some u)
  ok : ∀ r ∈ bs, r.ok
theorem BysAt.here {w w' : World} {v : Value} {bs : List ByR} (h : BysAt w v bs) (hb : Below w.heap.size w w') : BysAt w' v bs := by
  obtain ⟨a, cap, rfl, h1, h2, h3, hh⟩ := h.ex
  refine ⟨⟨a, cap, rfl, h1, h2, h3, fun h0 => ?_⟩, h.ok⟩
  obtain ⟨blk, off, e2, hl, hc⟩ := hh h0
  exact ⟨blk, off, e2, Nat.lt_of_lt_of_le hl hb.size, fun i hi j u hu => (hb.cell (p := ⟨blk, off + i * 5 + j, none⟩) hl).trans (hc i hi j u hu)⟩
/-- Below two worlds. -/
def PD (W X : World) : World → Prop := fun w' => Below W.heap.size W w' ∧ Below X.heap.size X w'
theorem PD.st (W X : World) : St (PC W) (fun w w' => Below w.heap.size w w') (PD W X) := ⟨fun _ h => h.1, fun _ _ h hb => ⟨mono_bel h.1 hb (Nat.le_refl _), mono_bel h.2 hb (Nat.le_refl _)⟩⟩
/-- .. a row of bytes beside. -/
def PBy (W : World) (g : Nat) (l : List UInt8) : World → Prop := fun w' => Below W.heap.size W w' ∧ ByAt w' g l
theorem PBy.here {W w w' : World} {g : Nat} {l : List UInt8} (h : PBy W g l w) (hb : Below w.heap.size w w') : PBy W g l w' := ⟨mono_bel h.1 hb (Nat.le_refl _), h.2.here hb⟩
theorem PBy.st (W : World) (g : Nat) (l : List UInt8) : St (PC W) (fun w w' => Below w.heap.size w w') (PBy W g l) := ⟨fun _ h => h.1, fun _ _ h hb => h.here hb⟩
theorem PBy.self (W : World) (g : Nat) (l : List UInt8) : St (PBy W g l) (fun w w' => Below w.heap.size w w') (PBy W g l) := ⟨fun _ h => h, fun _ _ h hb => h.here hb⟩
def sgC (sg : List (ByteArray × ByteArray)) : List Value := sg.flatMap sigC
theorem sgC_snoc (sg : List (ByteArray × ByteArray)) (x : ByteArray × ByteArray) : sgC (sg ++ [x]) = sgC sg ++ sigC x := by simp [sgC]
theorem sgC_get : ∀ (sg : List (ByteArray × ByteArray)) (i : Nat), i < sg.length → (sgC sg)[i * 2]? = some (.string (sg.getD i default).1) ∧ (sgC sg)[i * 2 + 1]? = some (.string (sg.getD i default).2)
  | [], i, h => by simp at h
  | x :: sg, 0, _ => ⟨rfl, rfl⟩
  | x :: sg, i + 1, h => by
    have := sgC_get sg i (by simpa using h)
    have e : sgC (x :: sg) = .string x.1 :: .string x.2 :: sgC sg := rfl
    rw [e, show (i + 1) * 2 = i * 2 + 1 + 1 by omega]
    simpa using this
/-- A row of signatures of one's own. -/
structure SgRow (w0 w : World) (v : Value) (sg : List (ByteArray × ByteArray)) : Prop where
  row : Pk.Row w 48 2 v sg.length (sgC sg)
  own : ∀ k, v.ownBlock = some k → w0.heap.size ≤ k
  bel : Below w0.heap.size w0 w
theorem SgRow.sigs {w0 w : World} {v : Value} {sg : List (ByteArray × ByteArray)} (h : SgRow w0 w v sg) : SigsAt w v sg := by
  obtain ⟨a, c, rfl⟩ := h.row.shape
  refine ⟨a, c, rfl, fun h0 => ?_⟩
  obtain ⟨g, c2, e, hl⟩ := h.row.some h0
  cases e
  refine ⟨g, 0, rfl, hl, fun i hi => ?_⟩
  have h1 := sgC_get sg i hi
  rw [Nat.zero_add]
  exact ⟨h.row.cells _ _ h1.1, h.row.cells _ _ h1.2⟩
theorem SgRow.here {w0 w w' : World} {v : Value} {sg : List (ByteArray × ByteArray)} (h : SgRow w0 w v sg) (hb : Below w.heap.size w w') : SgRow w0 w' v sg := ⟨row_here h.row hb, h.own, mono_bel h.bel hb (Nat.le_refl _)⟩
theorem info_sig : (Tryz.prog.info? 48).map (fun i => (i.zero, i.size, i.bytes)) = some (some (.agg #[.string ByteArray.empty, .string ByteArray.empty]), 2, 32) := by kernel_rfl
theorem SgRow.push {w0 w w2 : World} {v v' : Value} {sg : List (ByteArray × ByteArray)} {x : ByteArray × ByteArray} (h : SgRow w0 w v sg) (hp : Pk.PushedRow w 48 2 v (sg.length + 1) (sgC sg ++ sigC x) v' w2) : SgRow w0 w2 v' (sg ++ [x]) := by
  have hs := h.bel.size
  refine ⟨by rw [sgC_snoc, List.length_append]; exact hp.row, fun k hk => ?_, h.bel.trans (hp.chg.below hs fun i hi => h.own i hi)⟩
  rcases hp.place k hk with h3 | h3
  · exact h.own k h3
  · omega
/-- A byte of a row of bytes is written over. -/
theorem SgRow.put {w0 w : World} {v : Value} {sg : List (ByteArray × ByteArray)} {g : Nat} {l : List UInt8} (h : SgRow w0 w v sg) (y : ByAt w g l) (hg : w0.heap.size ≤ g) (j : Nat) (u : Value) : SgRow w0 (w.setCell ⟨g, j, none⟩ u) v sg := by
  obtain ⟨cu, fz, hy⟩ := y.ty
  refine ⟨h.row.chg ((Pk.Chg.refl (fun i => i = g) w).setCell (p := ⟨g, j, none⟩) rfl u) fun k hk e => ?_, h.own, h.bel.setCell hg u⟩
  obtain ⟨_, ⟨rfl, _⟩ | ⟨g2, cap, cur, rfl, _, hg2, _⟩⟩ := h.row
  · cases hk
  · obtain rfl : g2 = k := by simpa [Value.ownBlock] using hk
    rw [e, hy] at hg2
    cases hg2
/-- A region told from a class that need not be its base. -/
theorem region_steadyC {P : Program} (B C : World → Prop) (R : World → World → Prop) {id : Nat} {Q : Exit → Act → World → Prop} {a : Act} {w : World} {l : List Oper} (hm : P.follows .mixedOrders = true) (hC : C w.drew)
    (h : anyS P .any l.toArray B R (Q .normal) l.length (Array.replicate l.length false) a C) : (Code.region id l.toArray true).wp P Q a w := by
  refine wp_region_any hm ?_
  have h2 := any_of_S (fun _ _ h => h) _ _ _ _ _ hC h
  simpa using h2
/-- In the round: the signature's order, its bytes. -/
structure Sg7 (w0 w : World) (br gz : Nat) (cs : List Value) (l : List UInt8) : Prop where
  blk : Blk w br cs 42
  y : ByAt w gz l
  bel : Below w0.heap.size w0 w
theorem Sg7.here {w0 w w' : World} {br gz : Nat} {cs : List Value} {l : List UInt8} (h : Sg7 w0 w br gz cs l) (hb : Below w.heap.size w w') : Sg7 w0 w' br gz cs l := ⟨h.blk.below hb h.blk.lt, h.y.here hb, mono_bel h.bel hb (Nat.le_refl _)⟩
/-- .. and the row of what is signed. -/
def Sg7R (w0 : World) (br gz : Nat) (cs : List Value) (l : List UInt8) (v : Value) (sg : List (ByteArray × ByteArray)) : World → Prop := fun w => Sg7 w0 w br gz cs l ∧ SgRow w0 w v sg
theorem Sg7R.st (w0 : World) (br gz : Nat) (cs : List Value) (l : List UInt8) (v : Value) (sg : List (ByteArray × ByteArray)) : St (fun w => Sg7 w0 w br gz cs l) (fun w w' => Below w.heap.size w w') (Sg7R w0 br gz cs l v sg) := ⟨fun _ h => h.1, fun _ _ h hb => ⟨h.1.here hb, h.2.here hb⟩⟩
/-- .. and a signature laid ahead. -/
def Sg7L (w0 : World) (br gz : Nat) (cs : List Value) (l : List UInt8) (v : Value) (sg : List (ByteArray × ByteArray)) (bq : Nat) (x : ByteArray × ByteArray) : World → Prop := fun w => Sg7R w0 br gz cs l v sg w ∧ Blk w bq (sigC x) 48
theorem Sg7L.st (w0 : World) (br gz : Nat) (cs : List Value) (l : List UInt8) (v : Value) (sg : List (ByteArray × ByteArray)) (bq : Nat) (x : ByteArray × ByteArray) : St (fun w => Sg7 w0 w br gz cs l) (fun w w' => Below w.heap.size w w') (Sg7L w0 br gz cs l v sg bq x) := ⟨fun _ h => h.1.1, fun _ _ h hb => ⟨(Sg7R.st _ _ _ _ _ _ _).2 _ _ h.1 hb, h.2.below hb h.2.lt⟩⟩
theorem Sg7R.push {w0 w w2 : World} {br gz : Nat} {cs : List Value} {l : List UInt8} {v v' : Value} {sg : List (ByteArray × ByteArray)} {x : ByteArray × ByteArray} (h : Sg7R w0 br gz cs l v sg w) (hp : Pk.PushedRow w 48 2 v (sg.length + 1) (sgC sg ++ sigC x) v' w2) : Sg7R w0 br gz cs l v' (sg ++ [x]) w2 := by
  have h1 := h.2.push hp
  refine ⟨⟨hp.chg.blk h.1.blk (h.2.row.apart h.1.blk (by decide)), h.1.y.of (hp.chg.block gz h.1.y.lt fun e => ?_), h1.bel⟩, h1⟩
  obtain ⟨cu, fz, hy⟩ := h.1.y.ty
  obtain ⟨_, ⟨rfl, _⟩ | ⟨g2, cap, cur, rfl, _, hg2, _⟩⟩ := h.2.row
  · cases e
  · obtain rfl : g2 = gz := by simpa [Value.ownBlock] using e
    rw [hy] at hg2
    cases hg2
set_option maxHeartbeats 6400000 in
set_option maxRecDepth 100000 in
theorem signs7_any (v u : Value) (bs : List ByR) (w0 w : World) (hv : RgAt w0 w 5 v) (hu : BysAt w u bs) :
    Calls Tryz.prog 16 #[v, u] w fun e w' => ∃ v' sg, e = .returned v' ∧ SgRow w w' v' sg ∧ sg.length = min bs.length 8 := by
  obtain ⟨kb0, hr0, _⟩ := hv.ex
  obtain ⟨a, c, rfl⟩ := hr0.shape
  obtain ⟨g, rfl, _, kb, hkb⟩ := hv.key (by omega)
  have hgl : g < w.heap.size := hr0.lt g rfl
  have hkB : Box (∀ W, Below w.heap.size w W → ∀ j, j < 5 → W.cell? ⟨g, j, none⟩ = some (.pointer (some ⟨kb j, 0, none⟩)) ∧ QKey W (kb j) (sd j) 1 0) := ⟨fun W hb j hj => ⟨(hb.cell (p := ⟨g, j, none⟩) hgl).trans (hkb j hj).1, (hkb j hj).2.here hb⟩⟩
  obtain ⟨L, hL⟩ : ∃ L, bs.length = L := ⟨_, rfl⟩
  obtain ⟨ua, cap, rfl, hLc, hcm, hn0, hh⟩ := hu.ex
  have hok := Box.mk hu.ok
  obtain ⟨i0, hi0, hz0, hz1, hz2⟩ := info_parts info_sig
  have hA0 : Box (SgRow w w (.slice none 0 0) []) := ⟨⟨Pk.Row.nil _ _ _, (fun k hk => by cases hk), Below.refl _ _⟩⟩
  clear hv hr0 hkb hu
  rw [hL] at hLc hh ⊢
  rcases Nat.eq_zero_or_pos L with hLz | hLp
  · subst hLz
    clear hh
    unfold maxLen at hcm
    cases ua with
    | none =>
      obtain rfl := hn0 rfl
      go_enter Tryz.func16, Tryz.ntmps16
      go_wp2_with fail
      go_loopw [5, 6, 7, 8, 15] (fun v5 _ _ _ q wr => v5 = .slice none 0 0 ∧ q = .int .i64 0 ∧ Box (SgRow w wr (.slice none 0 0) [])) (fun _ _ _ _ _ _ => 0)
      case atStart => exact ⟨rfl, rfl, hA0⟩
      case round =>
        clear hA0
        obtain ⟨rfl, rfl, hA⟩ := hrel
        go_wp2_with fail
        go_ret
        exact ⟨_, [], rfl, hA.out, rfl⟩
    | some ad =>
      go_enter Tryz.func16, Tryz.ntmps16
      go_wp2_with fail
      go_loopw [5, 6, 7, 8, 15] (fun v5 _ _ _ q wr => v5 = .slice none 0 0 ∧ q = .int .i64 0 ∧ Box (SgRow w wr (.slice none 0 0) [])) (fun _ _ _ _ _ _ => 0)
      case atStart => exact ⟨rfl, rfl, hA0⟩
      case round =>
        clear hA0
        obtain ⟨rfl, rfl, hA⟩ := hrel
        go_wp2_with fail
        go_ret
        exact ⟨_, [], rfl, hA.out, rfl⟩
  · obtain ⟨blk, off, rfl, hbl, hc⟩ := hh hLp
    clear hh hn0
    obtain ⟨M, hM⟩ : ∃ M, min L 8 = M := ⟨_, rfl⟩
    have hmin : min (L : Int) 8 = (M : Int) := by omega
    have hML : M ≤ L := by omega
    have hM8 : M ≤ 8 := by omega
    have hMc : M ≤ cap := by omega
    unfold maxLen at hcm
    rw [hM]
    replace hc := Box.mk hc
    replace hbl := Box.mk hbl
    replace hL := Box.mk hL
    clear hM
    go_enter Tryz.func16, Tryz.ntmps16
    go_wp2_with fail
    go_loopw [5, 6, 7, 8, 15] (fun v5 _ _ _ q wr => ∃ i : Nat, i ≤ M ∧ q = .int .i64 (i : Int) ∧ ∃ sg, sg.length = i ∧ Box (SgRow w wr v5 sg)) (fun _ _ _ _ q _ => M - (intOf q).toNat)
    case atStart => exact ⟨0, by omega, rfl, [], rfl, hA0⟩
    case round =>
      clear hA0 hmin
      obtain ⟨i, hi, rfl, sg, hsg, hA⟩ := hrel
      obtain ⟨a5, c5, rfl⟩ := hA.out.row.shape
      by_cases hlt : i < M
      · have hw := hA.out.bel
        have hfacts := fun j u hu => (hw.cell (p := ⟨blk, off + i * 5 + j, none⟩) hbl.out).trans (hc.out i (by omega) j u hu)
        have hr : bs.getD i default ∈ bs := by
          have h1 : i < bs.length := by rw [hL.out]; omega
          simp [List.getD, h1]
        obtain ⟨hk, hmm, hp, hb, ht⟩ := hok.out _ hr
        obtain ⟨r, hre⟩ : ∃ r, bs.getD i default = r := ⟨_, rfl⟩
        rw [hre] at hfacts hk hmm hp hb ht
        clear hr hre
        obtain ⟨k, m, t, p, b⟩ := r
        have f0 := hfacts 0 _ rfl
        have f1 := hfacts 1 _ rfl
        have f2 := hfacts 2 _ rfl
        have f3 := hfacts 3 _ rfl
        have f4 := hfacts 4 _ rfl
        simp only [Nat.add_zero] at hk hmm hp hb ht f0
        clear hfacts
        obtain ⟨W2, hW2⟩ : ∃ W2, wr.alloc (.cells #[.int .u8 (k : Int), .int .u8 (m : Int), .string t, .int .u16 (p : Int), .int .u8 (b : Int)] 42) = W2 := ⟨_, rfl⟩
        have hb2 : Below wr.heap.size wr W2 := by rw [← hW2]; exact bel_alloc _ _
        have hR2 : Box (Blk W2 wr.heap.size [.int .u8 (k : Int), .int .u8 (m : Int), .string t, .int .u16 (p : Int), .int .u8 (b : Int)] 42) := ⟨by rw [← hW2]; exact Blk.new wr _ _⟩
        have hA2 := Box.mk (hA.out.here hb2)
        obtain ⟨br, hbr⟩ : ∃ b, wr.heap.size = b := ⟨_, rfl⟩
        rw [hbr] at hR2
        have hii : (i : Int) < (M : Int) := by omega
        have hi2 : Box (i % 2 < 2) := ⟨Nat.mod_lt _ (by decide)⟩
        have hk5 : k % 5 < 5 := Nat.mod_lt _ (by decide)
        have hkm : (k : Int).tmod 5 = ((k % 5 : Nat) : Int) := by rw [Int.tmod_eq_emod_of_nonneg (by omega)]; simp
        have him : (i : Int).tmod 2 = ((i % 2 : Nat) : Int) := by rw [Int.tmod_eq_emod_of_nonneg (by omega)]; simp
        obtain ⟨n2, hn2⟩ : ∃ n, i % 2 = n := ⟨_, rfl⟩
        obtain ⟨k5, hke⟩ : ∃ n, k % 5 = n := ⟨_, rfl⟩
        rw [hn2] at hi2 him
        rw [hke] at hk5 hkm
        clear hb2 hA hw hn2 hke
        go_wp2_with fail
        refine region_steady (PC W2) (fun w w' => Below w.heap.size w w') rfl (dB W2) ?_
        refine anyS_calms [0, 1, 2, 3, 4, 5, 6, 7, 8, 9] 3 rfl (fun _ => Below.refl _ _) (PC.st W2) (by kernel_rfl) (by kernel_rfl) (by kernel_rfl) ?_
        simp [nth]
        try simp only [Act.put, List.setIfInBounds_toArray, List.set_cons_succ, List.set_cons_zero]
        repeat (go_big_quiet_step (first | exact fun _ => rfl | rfl))
        refine quiet_val rfl (.int .u8 (k : Int)) (fun w' hw' => by have h3 : w'.cell? ⟨br, 0, none⟩ = some (.int .u8 (k : Int)) := (hR2.out.below hw' hR2.out.lt).cell 0; go_simp) ?_
        simp only [Act.put, List.setIfInBounds_toArray, List.set_cons_succ, List.set_cons_zero]
        repeat (go_big_quiet_step (first | exact fun _ => rfl | rfl))
        refine quiet_val rfl (.pointer (some ⟨kb k5, 0, none⟩)) (fun w' hw' => by have h3 := (hkB.out w' (mono_bel hA2.out.bel hw' (Nat.le_refl _)) k5 hk5).1; go_simp) ?_
        simp only [Act.put, List.setIfInBounds_toArray, List.set_cons_succ, List.set_cons_zero]
        repeat (go_big_quiet_step (first | exact fun _ => rfl | rfl))
        refine quiet_val rfl (.string t) (fun w' hw' => by have h3 : w'.cell? ⟨br, 2, none⟩ = some (.string t) := (hR2.out.below hw' hR2.out.lt).cell 2; go_simp) ?_
        simp only [Act.put, List.setIfInBounds_toArray, List.set_cons_succ, List.set_cons_zero]
        repeat (go_big_quiet_step (first | exact fun _ => rfl | rfl))
        refine wpQuiet_nil ?_
        clear f0 f1 f2 f3 f4 hW2 hbr hkm him hii
        have hzs := keyS_size (sd k5) 1 n2 t
        obtain ⟨z, hz⟩ : ∃ z, keyS (sd k5) 1 n2 t = z := ⟨_, rfl⟩
        rw [hz] at hzs
        refine anyS_forced 10 (by kernel_rfl) rfl rfl (fun wd hWd K hK => ?_)
        have hF := r6at_any (kb k5) (sd k5) t 1 0 n2 wd (hkB.out wd (mono_bel hA2.out.bel hWd (Nat.le_refl _)) k5 hk5).2 (by have := hi2.out; omega) (by show 1 ≤ _; decide) ht
        rw [hz] at hF
        go_simp
        refine hF.mono ?_
        rintro e w4 ⟨rfl, hb4⟩
        refine hK _ _ (PC W2) (PC.st W2) (mono_bel hWd hb4 (Nat.le_refl _)) ?_
        clear hK K hF hb4 hWd wd w4
        refine anyS_forced 11 (by kernel_rfl) rfl rfl (fun w3 hW3 K hK => ?_)
        have hcv := Lib.run_convert_string_bytes (P := Tryz.prog) w3 9 50 5 z (u := .string) Tryz.underlying9 Tryz.underlying50 Tryz.underlying5
        have hb4 := bytesWorld_belowL w3 5 z
        have hY4 := ByAt.made w3 z
        obtain ⟨w4, hw4⟩ : ∃ w4, Lib.bytesWorld w3 5 z = w4 := ⟨_, rfl⟩
        have hg4 : Box (W2.heap.size ≤ w3.heap.size) := ⟨hW3.size⟩
        obtain ⟨gz, hg⟩ : ∃ g, w3.heap.size = g := ⟨_, rfl⟩
        obtain ⟨cg, hcg⟩ : ∃ c, grownCap w3 z.size 0 5 = c := ⟨_, rfl⟩
        rw [hw4] at hcv hb4 hY4
        rw [hg] at hcv hY4 hg4
        rw [hcg] at hcv
        have hW4 := mono_bel hW3 hb4 (Nat.le_refl _)
        obtain ⟨zl, hzl⟩ : ∃ l, z.data.toList = l := ⟨_, rfl⟩
        have hzN : Box (zl.length = 323) := ⟨by rw [← hzl, data_len z]; exact hzs⟩
        rw [hzl] at hY4
        rw [hzs] at hcv
        go_simp
        refine hK _ _ (PBy W2 gz zl) (PBy.st _ _ _) ⟨hW4, hY4⟩ ?_
        clear hK K hW4 hY4 hW3 hb4 hw4 hg hcg hcv hzl hz hzs w3 w4
        refine anyS_last 12 (by kernel_rfl) rfl rfl (by kernel_rfl) (by kernel_rfl) (fun w4 hC4 K hK => ?_)
        replace hC4 := Box.mk hC4
        go_simp
        refine hK _ _ ?_
        clear hK K
        obtain ⟨q, hq⟩ : ∃ q, p % 323 = q := ⟨_, rfl⟩
        have hqi : (p : Int).tmod 323 = (q : Int) := by rw [Int.tmod_eq_emod_of_nonneg (by omega), ← hq]; simp
        have hqN : q < 323 := by rw [← hq]; exact Nat.mod_lt _ (by omega)
        have hql : q < zl.length := by rw [hzN.out]; exact hqN
        obtain ⟨yb, hyb⟩ := xor8 (zl[q]).toNat b
        obtain ⟨xb, hxb⟩ : ∃ x, (zl[q]).toNat = x := ⟨_, rfl⟩
        have hxc : Box (∀ w', ByAt w' gz zl → w'.cell? ⟨gz, q, none⟩ = some (.int .u8 (xb : Int))) := ⟨fun w' hy => by rw [← hxb]; exact hy.cell q hql⟩
        have hfr : Box (∀ w', ByAt w' gz zl → w'.frozen? ⟨gz, q, none⟩ = false) := ⟨fun w' hy => hy.free q hql⟩
        rw [hxb] at hyb
        have hxl : xb < 256 := by rw [← hxb]; exact UInt8.toNat_lt _
        clear hq hxb hql
        go_wp2_with fail
        refine region_steady (PBy W2 gz zl) (fun w w' => Below w.heap.size w w') rfl (hC4.out.here (dB w4)) ?_
        refine anyS_calms [0, 1, 2, 3, 4, 5, 6, 7, 8, 9, 10, 11, 12] 1 rfl (fun _ => Below.refl _ _) (PBy.self _ _ _) (by kernel_rfl) (by kernel_rfl) (by kernel_rfl) ?_
        simp [nth]
        try simp only [Act.put, List.setIfInBounds_toArray, List.set_cons_succ, List.set_cons_zero]
        repeat (go_big_quiet_step (first | exact fun _ => rfl | rfl))
        refine quiet_val rfl (.int .u16 (p : Int)) (fun w' hw' => by have h3 : w'.cell? ⟨br, 3, none⟩ = some (.int .u16 (p : Int)) := (hR2.out.below hw'.1 hR2.out.lt).cell 3; go_simp) ?_
        simp only [Act.put, List.setIfInBounds_toArray, List.set_cons_succ, List.set_cons_zero]
        repeat (go_big_quiet_step (first | exact fun _ => rfl | rfl))
        refine quiet_val rfl (.int .u8 (xb : Int)) (fun w' hw' => by have h3 := hxc.out w' hw'.2; go_simp) ?_
        simp only [Act.put, List.setIfInBounds_toArray, List.set_cons_succ, List.set_cons_zero]
        repeat (go_big_quiet_step (first | exact fun _ => rfl | rfl))
        refine quiet_val rfl (.int .u8 (b : Int)) (fun w' hw' => by have h3 : w'.cell? ⟨br, 4, none⟩ = some (.int .u8 (b : Int)) := (hR2.out.below hw'.1 hR2.out.lt).cell 4; go_simp) ?_
        simp only [Act.put, List.setIfInBounds_toArray, List.set_cons_succ, List.set_cons_zero]
        repeat (go_big_quiet_step (first | exact fun _ => rfl | rfl))
        refine wpQuiet_nil ?_
        refine anyS_last 13 (by kernel_rfl) rfl rfl (by kernel_rfl) (by kernel_rfl) (fun wd hBd K hK => ?_)
        have hfd := hfr.out wd hBd.2
        have hcd := hxc.out wd hBd.2
        have hgl2 := hBd.2.lt
        have hne : br ≠ gz := fun e => by
          have h1 := hR2.out.lt
          have h2 := hg4.out
          omega
        have hwz : w.heap.size ≤ gz := Nat.le_trans hA2.out.bel.size hg4.out
        have hA6 := (hA2.out.here hBd.1).put hBd.2 hwz q (.int .u8 ((yb.toNat : Nat) : Int))
        have hY6 := hBd.2.set q yb
        have hR6 := (hR2.out.below hBd.1 hR2.out.lt).setCell_other ⟨gz, q, none⟩ (.int .u8 ((yb.toNat : Nat) : Int)) hne
        have hl6 : Box ((zl.set q yb).length = 323) := ⟨by rw [List.length_set]; exact hzN.out⟩
        obtain ⟨l6, hl6e⟩ : ∃ l, zl.set q yb = l := ⟨_, rfl⟩
        rw [hl6e] at hY6 hl6
        obtain ⟨w6, hw6⟩ : ∃ w6, wd.setCell ⟨gz, q, none⟩ (.int .u8 ((yb.toNat : Nat) : Int)) = w6 := ⟨_, rfl⟩
        rw [hw6] at hA6 hY6 hR6
        have hC6 := Box.mk (show Sg7R w br gz [.int .u8 (k : Int), .int .u8 (m : Int), .string t, .int .u16 (p : Int), .int .u8 (b : Int)] l6 (.slice a5 sg.length c5) sg w6 from ⟨⟨hR6, hY6, hA6.bel⟩, hA6⟩)
        clear hBd hC4 hl6e hxc hfr hA6 hY6 hR6 hne hwz
        go_simp
        refine hK _ _ ?_
        clear hK K hfd hcd hgl2 hw6 hqi hqN hyb hxl hA2 hR2 hg4 hzN wd w4
        obtain ⟨z6, hz6⟩ : ∃ z : ByteArray, z = ⟨l6.toArray⟩ := ⟨_, rfl⟩
        replace hz6 := Box.mk hz6
        have hm5 : m % 5 < 5 := Nat.mod_lt _ (by decide)
        have hmm5 : (m : Int).tmod 5 = ((m % 5 : Nat) : Int) := by rw [Int.tmod_eq_emod_of_nonneg (by omega)]; simp
        obtain ⟨m5, hme⟩ : ∃ n, m % 5 = n := ⟨_, rfl⟩
        rw [hme] at hm5 hmm5
        obtain ⟨y, hy⟩ : ∃ y, keyID (sd m5) 1 = y := ⟨_, rfl⟩
        replace hy := Box.mk hy
        clear hme
        go_wp2_with fail
        refine region_steadyC (fun w' => Sg7 w w' br gz [.int .u8 (k : Int), .int .u8 (m : Int), .string t, .int .u16 (p : Int), .int .u8 (b : Int)] l6) (Sg7R w br gz [.int .u8 (k : Int), .int .u8 (m : Int), .string t, .int .u16 (p : Int), .int .u8 (b : Int)] l6 (.slice a5 sg.length c5) sg) (fun w w' => Below w.heap.size w w') rfl ((Sg7R.st _ _ _ _ _ _ _).2 _ _ hC6.out (dB w6)) ?_
        clear hC6
        refine anyS_calms [0, 1, 2, 3, 4, 5, 6, 8, 9] 5 rfl (fun _ => Below.refl _ _) (Sg7R.st _ _ _ _ _ _ _) (by kernel_rfl) (by kernel_rfl) (by kernel_rfl) ?_
        simp [nth]
        try simp only [Act.put, List.setIfInBounds_toArray, List.set_cons_succ, List.set_cons_zero]
        repeat (go_big_quiet_step (first | exact fun _ => rfl | rfl))
        refine quiet_val rfl (.int .u8 (m : Int)) (fun w' hw' => by have h3 : w'.cell? ⟨br, 1, none⟩ = some (.int .u8 (m : Int)) := hw'.blk.cell 1; go_simp) ?_
        simp only [Act.put, List.setIfInBounds_toArray, List.set_cons_succ, List.set_cons_zero]
        repeat (go_big_quiet_step (first | exact fun _ => rfl | rfl))
        refine quiet_val rfl (.pointer (some ⟨kb m5, 0, none⟩)) (fun w' hw' => by have h3 := (hkB.out w' hw'.bel m5 hm5).1; go_simp) ?_
        simp only [Act.put, List.setIfInBounds_toArray, List.set_cons_succ, List.set_cons_zero]
        repeat (go_big_quiet_step (first | exact fun _ => rfl | rfl))
        refine quiet_val rfl (.string z6) (fun w' hw' => by have h3 := hw'.y.text' hl6.out cg hz6.out; go_simp) ?_
        simp only [Act.put, List.setIfInBounds_toArray, List.set_cons_succ, List.set_cons_zero]
        repeat (go_big_quiet_step (first | exact fun _ => rfl | rfl))
        refine wpQuiet_nil ?_
        clear hmm5
        refine anyS_call 7 (.string y) (fun _ => Below.refl _ _) (Sg7R.st _ _ _ _ _ _ _) (by kernel_rfl) rfl (by kernel_rfl) (by kernel_rfl) rfl (fun w' hw' => by rw [← hy.out]; exact r6ID_any (kb m5) (sd m5) 1 0 w' (hkB.out w' hw'.bel m5 hm5).2) (fun w' _ => by go_simp) ?_
        refine anyS_calms [10] 3 rfl (fun _ => Below.refl _ _) (Sg7R.st _ _ _ _ _ _ _) (by kernel_rfl) (by kernel_rfl) (by kernel_rfl) ?_
        simp [nth]
        try simp only [Act.put, List.setIfInBounds_toArray, List.set_cons_succ, List.set_cons_zero]
        repeat (go_big_quiet_step (first | exact fun _ => rfl | rfl))
        refine wpQuiet_nil ?_
        refine anyS_forced 11 (by kernel_rfl) rfl rfl (fun wb hWb K hK => ?_)
        obtain ⟨wc, hwc⟩ : ∃ wc, wb.alloc (.cells #[.string y, .string z6] 48) = wc := ⟨_, rfl⟩
        have hbc : Below wb.heap.size wb wc := by rw [← hwc]; exact bel_alloc _ _
        have hQ : Blk wc wb.heap.size (sigC (y, z6)) 48 := by rw [← hwc]; exact Blk.new wb _ _
        have hWc := (Sg7R.st _ _ _ _ _ _ _).2 _ _ hWb hbc
        obtain ⟨bq, hbq⟩ : ∃ b, wb.heap.size = b := ⟨_, rfl⟩
        rw [hbq] at hQ
        go_simp
        refine hK _ _ (Sg7L w br gz _ l6 _ sg bq (y, z6)) (Sg7L.st _ _ _ _ _ _ _ _ _) ⟨hWc, hQ⟩ ?_
        clear hK K hwc hbc hQ hWc hbq hWb wb wc
        refine anyS_forced 12 (by kernel_rfl) rfl rfl (fun wd hWd K hK => ?_)
        have hrow := hWd.1.2.row
        have hnew : ∀ j u, (sigC (y, z6))[j]? = some u → wd.cell? ((⟨bq, 0, none⟩ : Addr).add j) = some u := fun j u hu => by
          have h1 := hWd.2.cell j
          rw [hu] at h1
          rw [← h1]
          unfold Addr.add
          split
          · next h => subst h; rfl
          · simp
        refine Pk.wp_pushR (.tmp 45) (.tmp 56) 38 48 rfl i0 (.agg #[.string ByteArray.empty, .string ByteArray.empty]) 2 32 Tryz.underlying38 hi0 hz0 hz1 hz2 rfl (by decide) _ sg.length (sgC sg) rfl (by rw [← hsg]; exact hrow) ⟨bq, 0, none⟩ 1 1 (sigC (y, z6)) rfl rfl hnew (by simp [sigC, Value.oneCell']) (by unfold maxLen; omega) (by omega) ?_
        intro v5 w5 hp5
        rw [← hsg] at hp5
        have hN := hWd.1.push hp5
        refine hK _ _ (Sg7R w br gz _ l6 v5 (sg ++ [(y, z6)])) (Sg7R.st _ _ _ _ _ _ _) hN ?_
        clear hK K hrow hnew hp5 hN hWd wd w5
        refine anyS_last 13 (by kernel_rfl) rfl rfl (by kernel_rfl) (by kernel_rfl) (fun w7 hC7 K hK => ?_)
        have hA7 := Box.mk hC7.2
        clear hC7
        go_simp
        refine hK _ _ ?_
        clear hK K
        have hs7 : (sg ++ [(y, z6)]).length = i + 1 := by rw [List.length_append, hsg]; rfl
        obtain ⟨sg7, hsg7⟩ : ∃ l, sg ++ [(y, z6)] = l := ⟨_, rfl⟩
        rw [hsg7] at hA7 hs7
        clear hsg7
        go_wp2_with fail
        exact ⟨⟨i + 1, by omega, by go_num, sg7, hs7, hA7⟩, by simp [intOf]; omega⟩
      · obtain rfl : i = M := by omega
        go_wp2_with fail
        go_ret
        exact ⟨_, sg, rfl, hA.out, hsg⟩
end Go.Proofs.YtkchaflijlmpgaaGreatDoor

namespace Go.Proofs.YtkchaflijlmpgaaGreatDoor
open Go Go.ChangeShapes Go.WideShapes Go.ChangeAt Go.RowKit Go.ChangeMaps

theorem u8_nat {n : Int} (h : (Lit.int .u8 n).wf = true) : ∃ k : Nat, k < 256 ∧ n = (k : Int) := by
  have h0 : IntKind.u8.min ≤ n ∧ n ≤ IntKind.u8.max := by simpa [Lit.wf] using h
  have h1 : IntKind.u8.min = 0 := by decide
  have h2 : IntKind.u8.max = 255 := by decide
  exact ⟨n.toNat, by omega, by omega⟩
theorem u16_nat {n : Int} (h : (Lit.int .u16 n).wf = true) : ∃ k : Nat, k < 65536 ∧ n = (k : Int) := by
  have h0 : IntKind.u16.min ≤ n ∧ n ≤ IntKind.u16.max := by simpa [Lit.wf] using h
  have h1 : IntKind.u16.min = 0 := by decide
  have h2 : IntKind.u16.max = 65535 := by decide
  exact ⟨n.toNat, by omega, by omega⟩
theorem weights_mem_all {H : Type} (P : Program) (e : TypeId) (n : Nat) : ∀ (l : List (DataW H)) (d : DataW H), d ∈ l → n ∈ d.weights P e → n ∈ DataW.weightsAll P e l
  | [], _, h, _ => by cases h
  | x :: l, d, h, hn => by
    show _ ∈ DataW.weights P e x ++ DataW.weightsAll P e l
    rw [List.mem_append]
    rcases List.mem_cons.1 h with rfl | h
    · exact .inl hn
    · exact .inr (weights_mem_all P e n l d h hn)
set_option maxRecDepth 100000 in
theorem by_cells {H : Type} {enc : TypeId × Value → H} {w : World} {base : Nat} {spare : Nat → Bool} {held : Bool} {fuel : Nat} {cs : List Value} {x : DataW H × List MemPlace}
    (h : DataW.trod enc Tryz.prog w base spare held fuel 42 cs = some x) : ∃ r : ByR, r.k < 256 ∧ r.m < 256 ∧ r.p < 65536 ∧ r.b < 256 ∧ cs = r.cs ∧
      r.t.data.toList.length ∈ x.1.weights Tryz.prog 42 := by
  obtain ⟨xs, m, _, hx, hl, hn, hF⟩ := DataW.trod_struct Tryz.underlying42 h
  rw [show Tryz.prog.cellsOf 42 = 5 by kernel_rfl] at hl
  match cs, hl, xs, hn with
  | [c0, c1, c2, c3, c4], _, [x0, x1, x2, x3, x4], _ =>
    have g0 : DataW.trod enc Tryz.prog w base spare held m 5 (([c0, c1, c2, c3, c4].drop 0).take (Tryz.prog.cellsOf 5)) = some x0 := hF 0 _ rfl
    have g1 : DataW.trod enc Tryz.prog w base spare held m 5 (([c0, c1, c2, c3, c4].drop 1).take (Tryz.prog.cellsOf 5)) = some x1 := hF 1 _ rfl
    have g2 : DataW.trod enc Tryz.prog w base spare held m 9 (([c0, c1, c2, c3, c4].drop 2).take (Tryz.prog.cellsOf 9)) = some x2 := hF 2 _ rfl
    have g3 : DataW.trod enc Tryz.prog w base spare held m 40 (([c0, c1, c2, c3, c4].drop 3).take (Tryz.prog.cellsOf 40)) = some x3 := hF 3 _ rfl
    have g4 : DataW.trod enc Tryz.prog w base spare held m 5 (([c0, c1, c2, c3, c4].drop 4).take (Tryz.prog.cellsOf 5)) = some x4 := hF 4 _ rfl
    have z5 : Tryz.prog.cellsOf 5 = 1 := by kernel_rfl
    have z3 : Tryz.prog.cellsOf 40 = 1 := by kernel_rfl
    have z9 : Tryz.prog.cellsOf 9 = 1 := by kernel_rfl
    rw [z5] at g0 g1 g4
    rw [z9] at g2
    rw [z3] at g3
    obtain ⟨k, e0, y0, w0⟩ := DataW.trod_int Tryz.underlying5 g0
    obtain ⟨k1, e1, y1, w1⟩ := DataW.trod_int Tryz.underlying5 g1
    obtain ⟨s, e2, y2, w2⟩ := DataW.trod_string Tryz.underlying9 g2
    obtain ⟨k3, e3, y3, w3⟩ := DataW.trod_int Tryz.underlying40 g3
    obtain ⟨k4, e4, y4, w4⟩ := DataW.trod_int Tryz.underlying5 g4
    obtain ⟨kk, hk, rfl⟩ := u8_nat w0
    obtain ⟨mm, hm, rfl⟩ := u8_nat w1
    obtain ⟨pp, hp, rfl⟩ := u16_nat w3
    obtain ⟨bb, hb, rfl⟩ := u8_nat w4
    simp [List.take, List.drop] at e0 e1 e2 e3 e4 y0 y1 y2 y3 y4
    subst e0 e1 e2 e3 e4 y0 y1 y2 y3 y4
    refine ⟨⟨kk, mm, s, pp, bb⟩, hk, hm, hp, hb, rfl, ?_⟩
    rw [hx]
    simp [DataW.weights, Tryz.underlying42, DataW.weightsEach]
theorem choose_list {α : Type} [Inhabited α] {P : Nat → α → Prop} : ∀ n : Nat, (∀ i, i < n → ∃ x, P i x) → ∃ l : List α, l.length = n ∧ ∀ i, i < n → P i (l.getD i default)
  | 0, _ => ⟨[], rfl, fun i hi => by omega⟩
  | n + 1, h => by
    obtain ⟨l, hl, hP⟩ := choose_list n fun i hi => h i (by omega)
    obtain ⟨x, hx⟩ := h n (by omega)
    refine ⟨l ++ [x], by simp [hl], fun i hi => ?_⟩
    by_cases e : i = n
    · subst e
      simpa [List.getD, ← hl] using hx
    · have h1 : i < l.length := by omega
      have := hP i (by omega)
      simpa [List.getD, List.getElem?_append_left h1] using this
set_option maxRecDepth 100000 in
theorem bys_open {H : Type} {enc : TypeId × Value → H} {W : World} {base : Nat} {v : Value} {d : DataW H} {p : List MemPlace} {ts : List TypeId} {ds : List (DataW H)} {j : Nat}
    (hv : Value.okWide Tryz.prog W .any base 32 v) (h : DataW.Trod enc Tryz.prog W 0 (fun _ => true) true 32 v d p)
    (hz : (DataW.weightsEach Tryz.prog ts ds).all (· ≤ reachBytes) = true) (ht : ts[j]? = some 32) (hd : ds[j]? = some d) :
    ∃ (a : Option Addr) (L cap : Nat) (bs : List ByR), v = .slice a L cap ∧ BysAt W (.slice a L cap) bs := by
  obtain ⟨a0, l0, c0, rfl⟩ := okWide_slice Tryz.underlying32 hv
  obtain ⟨fuel, hf⟩ := h
  rcases Deep.open_slice Tryz.underlying32 hf with ⟨hcs, hx⟩ | ⟨a, len, cap, m, n, D, Pl, hcs, hb, hl, hm, hmm, hde, hx⟩
  · simp [Value.cells] at hcs
    obtain ⟨rfl, rfl, rfl⟩ := hcs
    exact ⟨none, 0, 0, [], rfl, ⟨none, 0, rfl, Nat.le_refl _, Nat.zero_le _, fun _ => rfl, fun h => absurd h (Nat.lt_irrefl 0)⟩, fun r hr => by cases hr⟩
  · simp [Value.cells] at hcs
    obtain ⟨rfl, rfl, rfl⟩ := hcs
    have hde1 : d = _ := congrArg Prod.fst hde
    simp only [if_true] at hmm
    have z31 : Tryz.prog.cellsOf 42 = 5 := by kernel_rfl
    have each : ∀ i, i < l0 → ∃ r : ByR, r.ok ∧ ∀ j u, r.cs[j]? = some u → W.cell? (a.add (i * 5 + j)) = some u := by
      intro i hi
      obtain ⟨cs', h1, h2⟩ := hx i (by omega)
      rw [z31] at h1
      obtain ⟨_, hlen, hcell⟩ := World.cells?_some h1
      obtain ⟨r, hk, hm2, hp, hb2, rfl, hwt⟩ := by_cells h2
      refine ⟨r, ⟨hk, hm2, hp, hb2, ?_⟩, fun j u hu => ?_⟩
      · have hmem := weights_mem_all Tryz.prog 42 r.t.data.toList.length ((List.range l0).map D) (D i) (by simp; exact ⟨i, hi, rfl⟩) hwt
        have h3 := DataW.weights_mem_each (P := Tryz.prog) ht hd r.t.data.toList.length (by
          rw [hde1]
          simp only [DataW.weights, Tryz.underlying32, List.mem_cons, List.mem_append]
          exact .inr (.inl hmem))
        have h4 := List.all_eq_true.1 hz _ h3
        have h5 : r.t.data.toList.length ≤ reachBytes := by simpa using h4
        rw [data_len] at h5
        unfold reachBytes at h5
        omega
      · have hj : j < 5 := (List.getElem?_eq_some_iff.1 hu).1
        have e0 := hcell j (by omega)
        rw [Deep.add_add, hu] at e0
        exact e0
    obtain ⟨bs, hbl, hbs⟩ := choose_list l0 each
    refine ⟨some a, l0, c0, bs, rfl, ⟨some a, c0, by rw [hbl], by omega, hm, fun e => (by cases e), fun h0 => ?_⟩, fun r hr => ?_⟩
    · rw [hbl] at h0 ⊢
      have hc0 := (hbs 0 h0).2 0 _ rfl
      rw [Nat.zero_mul] at hc0
      obtain ⟨blk, off, spot⟩ := a
      have hspot : spot = none := by simpa [Addr.add] using World.cell?_spot hc0
      subst hspot
      refine ⟨blk, off, rfl, by simpa [Addr.add] using World.block_lt_of_cell? W _ hc0, fun i hi j u hu => ?_⟩
      have e0 := (hbs i hi).2 j u hu
      have hadd : ∀ j, (⟨blk, off, none⟩ : Addr).add j = ⟨blk, off + j, none⟩ := fun j => by
        unfold Addr.add
        split
        · next h => subst h; rfl
        · rfl
      rw [hadd] at e0
      rw [Nat.add_assoc]
      exact e0
    · obtain ⟨i, hi, rfl⟩ := List.getElem_of_mem hr
      have := (hbs i (by omega)).1
      simpa [List.getD, hi] using this
end Go.Proofs.YtkchaflijlmpgaaGreatDoor
