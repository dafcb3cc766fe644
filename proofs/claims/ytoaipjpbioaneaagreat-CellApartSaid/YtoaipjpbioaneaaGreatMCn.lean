/- An operation of layer 4's law that came in: its cells. | The document's cell: Open on a device of zeros. | The document's cell: Open, beyond the end and on a device of zeros. | The law CellNone: two devices begun, both cells opened. | Walk of the law CellNone. -/
import Derived.Test.YtoaipjpbioaneaaGreatCeU
import Derived.Test.YtoaipjpbioaneaaGreatMPk
import Derived.Test.YtoaipjpbioaneaaGreatMFq
import Derived.Test.YtoaipjpbioaneaaGreatCeW
namespace Go.Proofs.YtoaipjpbioaneaaGreat
open Go Go.ChangeShapes Go.WideShapes Go.ChangeAt Go.RowKit Go.ChangeMaps

set_option maxRecDepth 100000 in
theorem op04_cells {H : Type} {enc : TypeId × Value → H} {w : World} {base : Nat} {held : Bool} {fuel : Nat} {cs : List Value} {x : DataW H × List MemPlace}
    (h : DataW.trod enc Tryz.prog w base (fun _ => true) held fuel 31 cs = some x) : ∃ (k : UInt8) (s t : ByteArray) (n : Int) (v : Value) (l : List Int), cs = [.int .u8 (k.toNat : Int), .string s, .string t, .int .i64 n, v] ∧ (Lit.int .i64 n).wf = true ∧ s.size ≤ maxLen ∧ t.size ≤ maxLen ∧ Ints w (fun k => k < w.heap.size) v l ∧ l.length ≤ maxLen := by
  obtain ⟨xs, m, _, hx, hl, hn, hF⟩ := DataW.trod_struct Tryz.underlying31 h
  rw [show Tryz.prog.cellsOf 31 = 5 by kernel_rfl] at hl
  match cs, hl, xs, hn with
  | [c0, c1, c2, c3, c4], _, [x0, x1, x2, x3, x4], _ =>
    have g0 : DataW.trod enc Tryz.prog w base (fun _ => true) held m 5 (([c0, c1, c2, c3, c4].drop 0).take (Tryz.prog.cellsOf 5)) = some x0 := hF 0 _ rfl
    have g1 : DataW.trod enc Tryz.prog w base (fun _ => true) held m 9 (([c0, c1, c2, c3, c4].drop 1).take (Tryz.prog.cellsOf 9)) = some x1 := hF 1 _ rfl
    have g2 : DataW.trod enc Tryz.prog w base (fun _ => true) held m 9 (([c0, c1, c2, c3, c4].drop 2).take (Tryz.prog.cellsOf 9)) = some x2 := hF 2 _ rfl
    have g3 : DataW.trod enc Tryz.prog w base (fun _ => true) held m 3 (([c0, c1, c2, c3, c4].drop 3).take (Tryz.prog.cellsOf 3)) = some x3 := hF 3 _ rfl
    have g4 : DataW.trod enc Tryz.prog w base (fun _ => true) held m 25 (([c0, c1, c2, c3, c4].drop 4).take (Tryz.prog.cellsOf 25)) = some x4 := hF 4 _ rfl
    have z5 : Tryz.prog.cellsOf 5 = 1 := by kernel_rfl
    have z3 : Tryz.prog.cellsOf 3 = 1 := by kernel_rfl
    have z9 : Tryz.prog.cellsOf 9 = 1 := by kernel_rfl
    have z30 : Tryz.prog.cellsOf 25 = 1 := by kernel_rfl
    rw [z5] at g0
    rw [z9] at g1 g2
    rw [z3] at g3
    rw [z30] at g4
    obtain ⟨k, e0, y0, w0⟩ := DataW.trod_int Tryz.underlying5 g0
    obtain ⟨s, e1, y1, w1⟩ := DataW.trod_string Tryz.underlying9 g1
    obtain ⟨t, e2, y2, w2⟩ := DataW.trod_string Tryz.underlying9 g2
    obtain ⟨n, e3, y3, w3⟩ := DataW.trod_int Tryz.underlying3 g3
    obtain ⟨v, l, e4, hI, hll⟩ := fate_cells g4
    obtain ⟨kk, rfl⟩ := u8_of w0
    simp [List.take, List.drop] at e0 e1 e2 e3 e4
    subst e0 e1 e2 e3 e4
    exact ⟨kk, s, t, n, c4, l, rfl, w3, w1, w2, hI, hll⟩
end Go.Proofs.YtoaipjpbioaneaaGreat

namespace Go.Proofs.YtoaipjpbioaneaaGreat
open Go.RowKit Go.Maps

theorem numR_z (k m : Nat) (hm : m + k ≤ 64) (hk : k ≤ 8) : numR k (List.replicate (m + k) 0) 0 = (0, List.replicate m 0, 0) := by
  unfold numR
  have h : numL ((List.replicate (m + k) (0 : UInt8)).take k) = 0 := by
    rw [List.take_replicate, Nat.min_eq_left (by omega)]
    match k, hk with
    | 0, _ => rfl
    | 1, _ => rfl
    | 2, _ => rfl
    | 3, _ => rfl
    | 4, _ => rfl
    | 5, _ => rfl
    | 6, _ => rfl
    | 7, _ => rfl
    | 8, _ => rfl
  rw [if_neg (by decide), if_neg (by rw [List.length_replicate]; omega), h, if_neg (by decide), List.drop_replicate, Nat.add_sub_cancel]
  rfl
theorem bt_zero : bt zeroS = zs 64 := rfl
theorem row_at {w : World} {v : Value} {l : List Sec} {i : Nat} (h : Row w 9 1 v l.length (strs l)) (hi : i < l.length) : ∃ g c, v = .slice (some ⟨g, 0, none⟩) l.length c ∧ g < w.heap.size ∧ w.cell? ⟨g, i, none⟩ = some (.string (bt (l.getD i zeroS))) := by
  obtain ⟨a, c, rfl⟩ := h.shape
  have hx : (strs l)[i]? = some (.string (bt (l.getD i zeroS))) := by
    unfold strs
    rw [List.getElem?_map, List.getElem?_eq_getElem hi, List.getD_eq_getElem?_getD, List.getElem?_eq_getElem hi]
    rfl
  have h2 := h
  obtain ⟨_, ⟨h0, e0⟩ | ⟨g, cap, cur, e0, _⟩⟩ := h
  · rw [List.length_eq_zero_iff.1 e0] at hi; cases hi
  · cases e0
    have := World.ownsRow.cells (g := g) h2 rfl i _ hx
    have hl := h2.lt g rfl
    refine ⟨g, _, rfl, hl, ?_⟩
    rw [Addr.add_mid, Nat.zero_add] at this
    exact this
set_option maxHeartbeats 3200000 in
set_option maxRecDepth 100000 in
theorem copied_zero (bq bw : Nat) (F : Nat → Prop) (D : Dev) (base half k : Nat) (cs : List Value) (w : World) (h : QAt w bw F D) (hb : Blk w bq (.pointer (some ⟨bw, 0, none⟩) :: .int .i64 (base : Int) :: .int .i64 (half : Int) :: cs) 36)
    (hws : D.ws.length ≤ 1000000) (hk : k ≤ 1) (hbh : base ≤ 4096 ∧ half ≤ 4096) (hf : base + k * half < D.safe.length) (hz : D.seen.getD (base + k * half) zeroS = zeroS) :
    Calls Tryz.prog 44 #[.pointer (some ⟨bq, 0, none⟩), .int .i64 (k : Int)] w fun e w' => e = .returned (.tuple #[.int .i64 0, .slice none 0 0]) ∧ Below w.heap.size w w' := by
  have hA := Box.mk (qall_any bw F D w h (by omega) hws)
  have c0 : w.cell? ⟨bq, 0, none⟩ = some (.pointer (some ⟨bw, 0, none⟩)) := hb.cell 0
  have hlen : D.seen.length = D.safe.length := Dev.ok.seen_len
  obtain ⟨kh, hkh⟩ : ∃ kh, k * half = kh := ⟨_, rfl⟩
  have hkb : kh ≤ 4096 := by
    rcases (show k = 0 ∨ k = 1 by omega) with rfl | rfl <;> omega
  have hp : (k : Int) * (half : Int) = (kh : Int) := by rw [← hkh]; push_cast; rfl
  rw [hkh] at hz hf
  obtain ⟨at_, hat⟩ : ∃ n, base + kh = n := ⟨_, rfl⟩
  rw [hat] at hz hf
  have hati : (base : Int) + (kh : Int) = (at_ : Int) := by omega
  clear hkh
  have hb0 := Box.mk hb
  clear h hb
  go_enter Tryz.func44, Tryz.ntmps44
  go_wp2_with fail
  refine hA.out.mono ?_
  rintro e w1 ⟨v, rfl, hr, _, hB1⟩
  rw [← hlen] at hf
  obtain ⟨g, gc, rfl, hg, hcell⟩ := row_at hr hf
  rw [hz, bt_zero] at hcell
  have hb1 := (hB1.block bq hb0.out.lt).trans hb0.out
  have c1 : w1.cell? ⟨bq, 1, none⟩ = some (.int .i64 (base : Int)) := by
    show w1.cell? _ = _
    exact (show Blk w1 bq _ _ from hb1).cell 1
  have c2 : w1.cell? ⟨bq, 2, none⟩ = some (.int .i64 (half : Int)) := (show Blk w1 bq _ _ from hb1).cell 2
  generalize D.seen.length = L at *
  clear hA hr
  go_wp2_with fail
  refine wp_region_quiet_lit (by kernel_rfl) (by kernel_rfl) ?_
  repeat (go_big_quiet_step (first | exact fun _ => rfl | rfl))
  refine wpQuiet_nil ?_
  rintro w2 ⟨r, rfl⟩
  have hB2 : Box (Below w.heap.size w (w1.drewN r)) := ⟨hB1.trans (below_drewN _ w1 r)⟩
  have c3 : (w1.drewN r).cell? ⟨g, at_, none⟩ = some (.string (zs 64)) := hcell
  have c4 : (w1.drewN r).cell? ⟨bq, 2, none⟩ = some (.int .i64 (half : Int)) := c2
  have hg2 : g < (w1.drewN r).heap.size := hg
  have hbq2 : bq < (w1.drewN r).heap.size := (show Blk w1 bq _ _ from hb1).lt
  generalize w1.drewN r = w2 at hB2 c3 c4 hg2 hbq2 ⊢
  clear hb1 c1 c2 hcell hg
  have hR := Box.mk (xread_new (zs 64) w2)
  go_wp2_with fail
  refine hR.out.mono ?_
  rintro e w3 ⟨rfl, hA3, hB3⟩
  have hk3 := Box.mk (hB2.out.trans (hB3.mono hB2.out.size))
  have hbr : w.heap.size ≤ w2.heap.size := hB2.out.size
  generalize w2.heap.size = br at hA3 hbr ⊢
  have hN : Box (Calls Tryz.prog 73 #[.pointer (some ⟨br, 0, none⟩), .int .i64 8] w3 fun r w' => r = .returned (.int .i64 0) ∧ RNext w3 br 129 (List.replicate 56 0) 0 w') := ⟨by
    have := xnumber_any br _ _ 8 w3 hA3 (by decide)
    rw [show (zs 64).data.toList = List.replicate (56 + 8) 0 from rfl, numR_z 8 56 (by decide) (by decide)] at this
    exact this⟩
  clear hR hB2 hB3 c3 c4 hg2 hbq2
  go_wp2_with fail
  refine hN.out.mono ?_
  rintro e w4 ⟨rfl, hN4⟩
  have hk4 := Box.mk (hk3.out.trans (hN4.chg.below hk3.out.size (fun j (hj : j = br) => by omega)))
  have hN : Box (Calls Tryz.prog 73 #[.pointer (some ⟨br, 0, none⟩), .int .i64 4] w4 fun r w' => r = .returned (.int .i64 0) ∧ RNext w4 br 129 (List.replicate 52 0) 0 w') := ⟨by
    have := xnumber_any br _ _ 4 w4 hN4.at_ (by decide)
    rw [show List.replicate 56 (0 : UInt8) = List.replicate (52 + 4) 0 from rfl, numR_z 4 52 (by decide) (by decide)] at this
    exact this⟩
  clear hN4 hk3
  go_wp2_with fail
  refine hN.out.mono ?_
  rintro e w5 ⟨rfl, hN5⟩
  have hk5 := Box.mk (hk4.out.trans (hN5.chg.below hk4.out.size (fun j (hj : j = br) => by omega)))
  have hN : Box (Calls Tryz.prog 73 #[.pointer (some ⟨br, 0, none⟩), .int .i64 8] w5 fun r w' => r = .returned (.int .i64 0) ∧ RNext w5 br 129 (List.replicate 44 0) 0 w') := ⟨by
    have := xnumber_any br _ _ 8 w5 hN5.at_ (by decide)
    rw [show List.replicate 52 (0 : UInt8) = List.replicate (44 + 8) 0 from rfl, numR_z 8 44 (by decide) (by decide)] at this
    exact this⟩
  clear hN5 hk4
  go_wp2_with fail
  refine hN.out.mono ?_
  rintro e w6 ⟨rfl, hN6⟩
  have hk6 := Box.mk (hk5.out.trans (hN6.chg.below hk5.out.size (fun j (hj : j = br) => by omega)))
  clear hN6 hN hk5
  go_wp2_with fail
  go_returns
  exact ⟨rfl, hk6.out⟩
end Go.Proofs.YtoaipjpbioaneaaGreat

namespace Go.Proofs.YtoaipjpbioaneaaGreat
open Go.RowKit Go.Maps

set_option maxHeartbeats 3200000 in
set_option maxRecDepth 100000 in
theorem xopen_out (bw : Nat) (F : Nat → Prop) (D : Dev) (base half : Int) (w : World) (h : QAt w bw F D) (hb : -9223372036854775808 ≤ base ∧ base ≤ 9223372036854775807) (hh : -9223372036854775808 ≤ half ∧ half ≤ 9223372036854775807) (hin : inR D.safe.length base half = false) :
    Calls Tryz.prog 21 #[.pointer (some ⟨bw, 0, none⟩), .int .i64 base, .int .i64 half] w fun e w' => e = .returned (.tuple #[.pointer none, .int .i64 1]) ∧ w = w' := by
  obtain ⟨vs, vp, hbk, hs, _⟩ := h.out
  obtain ⟨a, c, rfl⟩ := hs.shape
  have hn := h.ok.n
  have c0 : w.cell? ⟨bw, 0, none⟩ = some (.slice a D.safe.length c) := hbk.cell 0
  unfold inR at hin
  rw [decide_eq_false_iff_not] at hin
  generalize D.safe.length = n at *
  clear h hbk hs
  by_cases h1 : base < 0
  · clear hin
    go_enter Tryz.func21, Tryz.ntmps21
    go_wp2_with fail
    go_returns
    exact ⟨rfl, rfl⟩
  · by_cases h2 : half < 2
    · clear hin
      go_enter Tryz.func21, Tryz.ntmps21
      go_wp2_with fail
      go_returns
      exact ⟨rfl, rfl⟩
    · by_cases h3 : (n : Int) < base
      · clear hin
        go_enter Tryz.func21, Tryz.ntmps21
        go_wp2_with fail
        go_returns
        exact ⟨rfl, rfl⟩
      · have htd : ((n : Int) - base).tdiv 2 = ((n : Int) - base) / 2 := Int.tdiv_eq_ediv_of_nonneg (by omega)
        have h4 : ((n : Int) - base) / 2 < half := by omega
        clear hin
        go_enter Tryz.func21, Tryz.ntmps21
        go_wp2_with fail
        go_returns
        exact ⟨rfl, rfl⟩
def XCells (bw base half : Nat) : List Value := [.pointer (some ⟨bw, 0, none⟩), .int .i64 (base : Int), .int .i64 (half : Int), .slice none 0 0, .slice none 0 0, .int .i64 0, .int .i64 1, .bool false]
def XOpened (bw base half : Nat) (w : World) (e : Ending) (w' : World) : Prop :=
  ∃ bq, e = .returned (.tuple #[.pointer (some ⟨bq, 0, none⟩), .int .i64 0]) ∧ Blk w' bq (XCells bw base half) 36 ∧ w.heap.size ≤ bq ∧ Below w.heap.size w w'
set_option maxHeartbeats 3200000 in
set_option maxRecDepth 100000 in
theorem xopen_zero (bw : Nat) (F : Nat → Prop) (D : Dev) (base half : Nat) (w : World) (h : QAt w bw F D) (h2 : 2 ≤ half) (hin : base + 2 * half ≤ D.safe.length) (hoff : D.off = false) (hws : D.ws.length ≤ 1000000) (hz : ∀ i, D.seen.getD i zeroS = zeroS) :
    Calls Tryz.prog 21 #[.pointer (some ⟨bw, 0, none⟩), .int .i64 (base : Int), .int .i64 (half : Int)] w (XOpened bw base half w) := by
  obtain ⟨vs, vp, hbk, hs, _⟩ := h.out
  obtain ⟨a, c, rfl⟩ := hs.shape
  have hn := h.ok.n
  have c0 : w.cell? ⟨bw, 0, none⟩ = some (.slice a D.safe.length c) := hbk.cell 0
  have c4 : w.cell? ⟨bw, 4, none⟩ = some (.bool D.off) := hbk.cell 4
  rw [hoff] at c4
  obtain ⟨wn, hwn⟩ : ∃ wn, w.alloc (.cells #[.pointer (some ⟨bw, 0, none⟩), .int .i64 (base : Int), .int .i64 (half : Int), .slice none 0 0, .slice none 0 0, .int .i64 0, .int .i64 1, .bool false] 36) = wn := ⟨_, rfl⟩
  have hnb := Blk.new w (XCells bw base half) 36
  unfold XCells at hnb
  rw [hwn] at hnb
  have hb0 : Below w.heap.size w wn := hwn ▸ (Below.refl _ _).alloc (Nat.le_refl _) _
  have hQ := Box.mk (h.below hb0)
  obtain ⟨bq, hbq⟩ : ∃ bq, w.heap.size = bq := ⟨_, rfl⟩
  rw [hbq] at hnb
  have hC := Box.mk (copied_zero bq bw F D base half 0 _ wn hQ.out hnb hws (by omega) (by omega) (by omega) (hz _))
  replace hnb := Box.mk hnb
  replace hb0 := Box.mk hb0
  have htd : ((D.safe.length : Int) - (base : Int)).tdiv 2 = ((D.safe.length : Int) - base) / 2 := Int.tdiv_eq_ediv_of_nonneg (by omega)
  have h4 : ¬ ((D.safe.length : Int) - base) / 2 < (half : Int) := by omega
  have h3 : ¬ (D.safe.length : Int) < (base : Int) := by omega
  have hfit : Box (base + 2 * half ≤ D.safe.length) := ⟨hin⟩
  generalize hN : D.safe.length = N at *
  replace hN := Box.mk hN
  clear h hbk hs
  go_enter Tryz.func21, Tryz.ntmps21
  go_wp2_with fail
  refine hC.out.mono ?_
  rintro e w1 ⟨rfl, hB1⟩
  have hQ1 := hQ.out.below hB1
  have hn1 := (hB1.block bq hnb.out.lt).trans hnb.out
  have hk1 := Box.mk (hb0.out.trans (hB1.mono hb0.out.size))
  have hC2 := Box.mk (copied_zero bq bw F D base half 1 _ w1 hQ1 hn1 hws (by omega) (by omega) (by rw [hN.out]; have := hfit.out; omega) (hz _))
  replace hn1 := Box.mk (show Blk w1 bq _ _ from hn1)
  clear hC hB1 hQ1 hQ hnb hb0 c0 c4
  go_wp2_with fail
  refine hC2.out.mono ?_
  rintro e w2 ⟨rfl, hB2⟩
  have hn2 : Blk w2 bq (XCells bw base half) 36 := (hB2.block bq hn1.out.lt).trans hn1.out
  have hk2 := Box.mk (hk1.out.trans (hB2.mono hk1.out.size))
  have c4 : w2.cell? ⟨bq, 4, none⟩ = some (.slice none 0 0) := hn2.cell 4
  have c3 : w2.frozen? ⟨bq, 3, none⟩ = false := hn2.free 3
  have c33 : w2.cell? ⟨bq, 3, none⟩ = some (.slice none 0 0) := hn2.cell 3
  have hE := hn2.setCell 3 (.slice none 0 0)
  have hk3 := Box.mk (hk2.out.trans ((chg1 w2 bq 3 (.slice none 0 0)).below hk2.out.size (fun j (hj : j = bq) => by omega)))
  replace hE := Box.mk hE
  have hle : w.heap.size ≤ bq := by omega
  clear hC2 hB2 hn2 hn1 hk1 hk2 hbq
  go_wp2_with fail
  go_returns
  exact ⟨bq, rfl, hE.out, hle, hk3.out⟩
end Go.Proofs.YtoaipjpbioaneaaGreat

namespace Go.Proofs.YtoaipjpbioaneaaGreat
open Go.RowKit Go.Maps

def WorldCells (bd bw : Nat) (pc pq : Option Addr) : List Value := [.pointer (some ⟨bd, 0, none⟩), .pointer pc, .pointer (some ⟨bw, 0, none⟩), .pointer pq]
def Begun04 (w : World) (n : Nat) (e : Ending) (w' : World) : Prop :=
  ∃ ba bd bw F G, e = .returned (.pointer (some ⟨ba, 0, none⟩)) ∧ Blk w' ba (WorldCells bd bw none none) 41 ∧ w.heap.size ≤ ba ∧ DAt w' bd F (Dev.new n) ∧ QAt w' bw G (Dev.new n) ∧ (∀ k, F k → w.heap.size ≤ k ∧ k < bw ∧ k ≠ ba) ∧ (∀ k, G k → w.heap.size ≤ k ∧ k ≠ ba ∧ ¬ F k) ∧ Below w.heap.size w w'
set_option maxHeartbeats 1600000 in
set_option maxRecDepth 100000 in
theorem begun04_fit (n : Nat) (w : World) (h1 : 1 ≤ n) (h2 : n ≤ 4096) :
    Calls Tryz.prog 6 #[.int .i64 (n : Int)] w (Begun04 w n) := by
  have hA := Box.mk (new_fit n w h1 h2)
  go_enter Tryz.func6, Tryz.ntmps6
  go_wp2_with fail
  refine hA.out.mono ?_
  rintro e w2 ⟨bd, rfl, hD, hB⟩
  have hQ := Box.mk (qnew_fit n w2 h1 h2)
  clear hA
  replace hD := Box.mk hD
  replace hB := Box.mk hB
  go_wp2_with fail
  refine hQ.out.mono ?_
  rintro e w3 ⟨bw, rfl, hW, hB3⟩
  have hs := hB.out.size
  have hs3 := hB3.size
  have hfin : Box (∃ F G, DAt (w3.alloc (.cells #[.pointer (some ⟨bd, 0, none⟩), .pointer none, .pointer (some ⟨bw, 0, none⟩), .pointer none] 41)) bd F (Dev.new n) ∧ QAt (w3.alloc (.cells #[.pointer (some ⟨bd, 0, none⟩), .pointer none, .pointer (some ⟨bw, 0, none⟩), .pointer none] 41)) bw G (Dev.new n) ∧ (∀ k, F k → w.heap.size ≤ k ∧ k < bw ∧ k ≠ w3.heap.size) ∧ (∀ k, G k → w.heap.size ≤ k ∧ k ≠ w3.heap.size ∧ ¬ F k)) := ⟨by
    have hbw := hW.fd
    have hD3 := hD.out.below hB3
    have hDl := hD.out.lt
    refine ⟨_, _, hD3.below ((Below.refl _ _).alloc (Nat.le_refl _) _), hW.below ((Below.refl _ _).alloc (Nat.le_refl _) _), fun k hk => ?_, fun k hk => ?_⟩
    · exact ⟨hk.1, by omega, by omega⟩
    · exact ⟨by omega, by omega, fun h => by omega⟩⟩
  have hnb := Box.mk (Blk.new w3 (WorldCells bd bw none none) 41)
  have hBB := Box.mk ((hB.out.trans (hB3.mono hs)).alloc (Nat.le_trans hs hs3) (.cells #[.pointer (some ⟨bd, 0, none⟩), .pointer none, .pointer (some ⟨bw, 0, none⟩), .pointer none] 41))
  have hle : w.heap.size ≤ w3.heap.size := Nat.le_trans hs hs3
  clear hQ hW hB3 hD hB hs hs3
  go_wp2_with fail
  go_returns
  obtain ⟨F, G, f1, f2, f3, f4⟩ := hfin.out
  exact ⟨w3.heap.size, bd, bw, F, G, rfl, hnb.out, hle, f1, f2, f3, f4, hBB.out⟩
theorem new_len (n : Nat) : (Dev.new n).safe.length = n := by simp [Dev.new]
set_option maxHeartbeats 3200000 in
set_option maxRecDepth 100000 in
theorem world_open (ba bd bw : Nat) (F G : Nat → Prop) (n : Nat) (base half : Int) (w : World) (hb : Blk w ba (WorldCells bd bw none none) 41) (hD : DAt w bd F (Dev.new n)) (hQ : QAt w bw G (Dev.new n)) (hn : n ≤ 4096)
    (h1 : -9223372036854775808 ≤ base ∧ base ≤ 9223372036854775807) (h2 : -9223372036854775808 ≤ half ∧ half ≤ 9223372036854775807) :
    Calls Tryz.prog 7 #[.pointer (some ⟨ba, 0, none⟩), .int .i64 base, .int .i64 half] w fun e w' => e = .returned (.bool true) ∧ Chg (fun k => k = ba) w w' := by
  have d0 : w.cell? ⟨ba, 0, none⟩ = some (.pointer (some ⟨bd, 0, none⟩)) := hb.cell 0
  cases hin : inR n base half with
  | false =>
    have hO := Box.mk (open_out bd F (Dev.new n) base half w hD h1 h2 (by rw [new_len]; exact hin))
    have hX := Box.mk (xopen_out bw G (Dev.new n) base half w hQ h1 h2 (by rw [new_len]; exact hin))
    have d1 : w.cell? ⟨ba, 1, none⟩ = some (.pointer none) := hb.cell 1
    have d2 : w.cell? ⟨ba, 2, none⟩ = some (.pointer (some ⟨bw, 0, none⟩)) := hb.cell 2
    have d3 : (w.setCell ⟨ba, 1, none⟩ (.pointer none)).cell? ⟨ba, 3, none⟩ = some (.pointer none) := (hb.setCell 1 (.pointer none)).cell 3
    have f1 := hb.free 1
    have f3 := (hb.setCell 1 (.pointer none)).free 3
    have hc := Box.mk (((Chg.refl (fun k => k = ba) w).setCell (p := ⟨ba, 1, none⟩) rfl (.pointer none)).setCell (p := ⟨ba, 3, none⟩) rfl (.pointer none))
    clear hb hD hQ hin
    go_enter Tryz.func7, Tryz.ntmps7
    go_wp2_with fail
    refine hO.out.mono ?_
    rintro e w' ⟨rfl, rfl⟩
    clear hO
    go_wp2_with fail
    refine hX.out.mono ?_
    rintro e w' ⟨rfl, rfl⟩
    clear hX
    go_wp2_with fail
    go_returns
    exact ⟨rfl, hc.out⟩
  | true =>
    have hin' := of_decide_eq_true hin
    obtain ⟨b, rfl⟩ : ∃ b : Nat, base = (b : Int) := ⟨base.toNat, by omega⟩
    obtain ⟨h, rfl⟩ : ∃ h : Nat, half = (h : Int) := ⟨half.toNat, by omega⟩
    have s0 := Sound.new n b h hn (by omega) (by omega)
    have hO := Box.mk (open_fit bd F (Dev.new n) b h w hD rfl (by omega) (by rw [new_len]; omega) M0 s0.opens rfl rfl s0.ok)
    have hX := fun w1 (hB1 : Below w.heap.size w w1) => Box.mk (xopen_zero bw G (Dev.new n) b h w1 (hQ.below hB1) (by omega) (by rw [new_len]; omega) rfl (Nat.zero_le _) (fun i => by rw [seen_calm (Calm.new n hn)]; exact new_zero n i))
    replace hX := Box.mk hX
    replace hb := Box.mk hb
    clear hD hQ hin hin' s0
    go_enter Tryz.func7, Tryz.ntmps7
    go_wp2_with fail
    refine hO.out.mono ?_
    rintro e w1 ⟨bc, rfl, hcel⟩
    have hB1 := hcel.out.1
    have hbk := (hB1.block ba hb.out.lt).trans hb.out
    have d2 : w1.cell? ⟨ba, 2, none⟩ = some (.pointer (some ⟨bw, 0, none⟩)) := (show Blk w1 ba (WorldCells bd bw none none) _ from hbk).cell 2
    have hX1 := hX.out w1 hB1
    replace hB1 := Box.mk hB1
    clear hO hcel d0 hX hbk
    go_wp2_with fail
    refine hX1.out.mono ?_
    rintro e w2 ⟨bq, rfl, _, _, hB2⟩
    have hbl := hb.out.lt
    have hk2 : Below w.heap.size w w2 := hB1.out.trans (hB2.mono hB1.out.size)
    have hbk : Blk w2 ba (WorldCells bd bw none none) 41 := (hk2.block ba hbl).trans hb.out
    have d1 : w2.cell? ⟨ba, 1, none⟩ = some (.pointer none) := hbk.cell 1
    have d3 : (w2.setCell ⟨ba, 1, none⟩ (.pointer (some ⟨bc, 0, none⟩))).cell? ⟨ba, 3, none⟩ = some (.pointer none) := (hbk.setCell 1 (.pointer (some ⟨bc, 0, none⟩))).cell 3
    have f1 := hbk.free 1
    have f3 := (hbk.setCell 1 (.pointer (some ⟨bc, 0, none⟩))).free 3
    have hc := Box.mk ((((Chg.of_below hk2).mono (T := fun k => k = ba) fun i hi hk => by omega).setCell (p := ⟨ba, 1, none⟩) rfl (.pointer (some ⟨bc, 0, none⟩))).setCell (p := ⟨ba, 3, none⟩) rfl (.pointer (some ⟨bq, 0, none⟩)))
    clear hX1 hB1 hB2 hk2 hbk hb d2
    go_wp2_with fail
    go_returns
    exact ⟨rfl, hc.out⟩
end Go.Proofs.YtoaipjpbioaneaaGreat

namespace Go.Proofs.YtoaipjpbioaneaaGreat
open Go.RowKit Go.Maps

end Go.Proofs.YtoaipjpbioaneaaGreat
