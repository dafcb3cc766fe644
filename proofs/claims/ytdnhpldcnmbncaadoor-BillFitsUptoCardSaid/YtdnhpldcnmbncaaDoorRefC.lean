/- Walk of the document's hash. -/
import Derived.Test.YtdnhpldcnmbncaaDoorRefB
import Derived.Test.YtdnhpldcnmbncaaDoorShaF
namespace Go.Proofs.YtdnhpldcnmbncaaDoor
open Go.RowKit

def firstLit : Array Value := #[Value.int IntKind.u32 1779033703, Value.int IntKind.u32 3144134277, Value.int IntKind.u32 1013904242, Value.int IntKind.u32 2773480762, Value.int IntKind.u32 1359893119, Value.int IntKind.u32 2600822924, Value.int IntKind.u32 528734635, Value.int IntKind.u32 1541459225]
theorem firstLit_eq : firstLit = first.cells.toArray := by kernel_rfl
def lenOf : Value → Nat | .slice _ n _ => n | _ => 0
def fill (l : List UInt8) (j : Nat) : List UInt8 := l ++ 128 :: List.replicate j 0
theorem fill_length (l : List UInt8) (j : Nat) : (fill l j).length = l.length + 1 + j := by simp [fill]; omega
theorem fill_step (l : List UInt8) (j : Nat) : fill l j ++ [0] = fill l (j + 1) := by
  simp [fill, List.replicate_succ']
theorem be4_nat (x : BitVec 32) : be4 x = [UInt8.ofNat (x.toNat / 16777216 % 256), UInt8.ofNat (x.toNat / 65536 % 256), UInt8.ofNat (x.toNat / 256 % 256), UInt8.ofNat (x.toNat % 256)] := by
  have h : ∀ n : Nat, ((U (x >>> n) % 256).toNat) = x.toNat / 2 ^ n % 256 := fun n => by
    rw [U, BitVec.toNat_ushiftRight, Nat.shiftRight_eq_div_pow]; omega
  have h0 : (U x % 256).toNat = x.toNat % 256 := by rw [U]; omega
  simp only [be4, bytes4, List.map_cons, List.map_nil, h, h0]
theorem beN_four (X : Nat) (h : X < 4294967296) : beN X 4 = be4 (BitVec.ofNat 32 X) := by
  rw [be4_nat, BitVec.toNat_ofNat, show X % 2 ^ 32 = X by omega]
  simp [beN]
theorem beN_eight (X : Nat) (h : X < 18446744073709551616) : beN X 8 = be4 (BitVec.ofNat 32 (X / 4294967296)) ++ be4 (BitVec.ofNat 32 X) := by
  rw [be4_nat, be4_nat, BitVec.toNat_ofNat, BitVec.toNat_ofNat]
  have e1 : X / 4294967296 % 2 ^ 32 = X / 4294967296 := by omega
  rw [e1]
  simp only [beN, List.cons_append, List.nil_append, List.cons.injEq, and_true]
  refine ⟨?_, ?_, ?_, ?_, ?_, ?_, ?_, ?_⟩
  all_goals (congr 1; simp only [show (2 : Nat) ^ (8 * 7) = 72057594037927936 by decide, show (2 : Nat) ^ (8 * 6) = 281474976710656 by decide, show (2 : Nat) ^ (8 * 5) = 1099511627776 by decide, show (2 : Nat) ^ (8 * 4) = 4294967296 by decide, show (2 : Nat) ^ (8 * 3) = 16777216 by decide, show (2 : Nat) ^ (8 * 2) = 65536 by decide, show (2 : Nat) ^ (8 * 1) = 256 by decide, show (2 : Nat) ^ (8 * 0) = 1 by decide] <;> omega)
theorem fill_pad (l : List UInt8) (z : Nat) (hz : (119 - l.length % 64) % 64 = z) (hl : l.length ≤ 140737488354800) : fill l z ++ beN (l.length * 8) 8 = padded l := by
  rw [beN_eight _ (by omega), padded, hz, fill]
  simp [List.append_assoc]
/-- A row of bytes that the call owns, laid open: its cells. -/
theorem own_cells {w : World} {B : Nat} {v : Value} {l : List UInt8} (h : w.ownsRow B 5 1 v l.length (l.map yc)) (h0 : 0 < l.length) :
    ∃ g cap, v = .slice (some ⟨g, 0, none⟩) l.length cap ∧ B ≤ g ∧ ∀ i, i < l.length → w.cell? ⟨g, i, none⟩ = some (.int .u8 (Y (l.getD i 0))) := by
  obtain ⟨_, ⟨_, h1⟩ | ⟨g, cap, cur, hv, hg, hh, _, _, hsz, hcur⟩⟩ := h
  · omega
  · refine ⟨g, cap, hv, hg, fun i hi => ?_⟩
    have h1 : (cur.toList.take (l.length * 1))[i]? = (l.map yc)[i]? := by rw [hcur]
    rw [List.getElem?_take_of_lt (by omega), List.getElem?_map] at h1
    rw [cell_of_row w g i cur _ _ hh, ← Array.getElem?_toList, h1]
    simp [hi, yc, List.getD]

theorem flat4 (st : S8) (i : Nat) (hi : i ≤ 8) : ((st.list.take i).flatMap be4).length = 4 * i := by
  obtain rfl | rfl | rfl | rfl | rfl | rfl | rfl | rfl | rfl : i = 0 ∨ i = 1 ∨ i = 2 ∨ i = 3 ∨ i = 4 ∨ i = 5 ∨ i = 6 ∨ i = 7 ∨ i = 8 := by omega
  all_goals rfl
set_option maxHeartbeats 2000000 in
set_option maxRecDepth 100000 in
theorem rhash_any (B : Nat) (w0 w : World) (v : Value) (l : List UInt8) (hO : Box (w.ownsRow B 5 1 v l.length (l.map yc))) (hB : Box (Below B w0 w)) (hBs : B ≤ w0.heap.size) (hlen : l.length ≤ 140737488354800) :
    Calls Tryd.prog 61 #[v] w fun e w' => e = .returned (.string (hashOf l)) ∧ Box (Below B w0 w') := by
  obtain ⟨N, hN⟩ : ∃ N, l.length = N := ⟨_, rfl⟩
  obtain ⟨z, hz⟩ : ∃ z, (119 - N % 64) % 64 = z := ⟨_, rfl⟩
  have hvs : ∃ b c, v = .slice b N c := by
    obtain ⟨_, ⟨rfl, h0⟩ | ⟨g2, cap, cur, rfl, _⟩⟩ := hO.out
    · exact ⟨_, _, by rw [← hN, h0]⟩
    · exact ⟨_, _, by rw [hN]⟩
  obtain ⟨bb, bc, rfl⟩ := hvs
  have hBw := hB
  have hsz0 : Box (B ≤ (w.alloc (.cells firstLit 74)).heap.size) := ⟨by have := hB.out.size; simp; omega⟩
  have hO1 : Box (((w.alloc (.cells firstLit 74)).alloc (.cells #[Value.int .u8 128] 5)).ownsRow B 5 1 (.slice bb N bc) l.length (l.map yc)) := ⟨(hO.out.alloc _).alloc _⟩
  have hB1 : Box (Below B w0 ((w.alloc (.cells firstLit 74)).alloc (.cells #[Value.int .u8 128] 5))) := ⟨(hB.out.alloc (by have := hB.out.size; omega) _).alloc hsz0.out _⟩
  have hsz1 : Box (B ≤ ((w.alloc (.cells firstLit 74)).alloc (.cells #[Value.int .u8 128] 5)).heap.size) := ⟨by have := hB.out.size; simp; omega⟩
  have hV : Blk (w.alloc (.cells firstLit 74)) w.heap.size first.cells 74 := by rw [firstLit_eq]; exact Blk.new w _ _
  have hnw : Box (∀ j, j < [(128 : UInt8)].length → ((w.alloc (.cells firstLit 74)).alloc (.cells #[Value.int .u8 128] 5)).cell? ⟨w.heap.size + 1, j, none⟩ = ([(128 : UInt8)].map yc)[j]?) := ⟨by
    have := byte_new (w.alloc (.cells firstLit 74)) 128
    rwa [show (w.alloc (.cells firstLit 74)).heap.size = w.heap.size + 1 by simp] at this⟩
  have hcap : Box (l.length + [(128 : UInt8)].length ≤ 140737488355328) := ⟨by simp only [List.length_cons, List.length_nil]; omega⟩
  replace hV := Box.mk hV
  have hNb : N ≤ 140737488354800 := by omega
  have hpad := Box.mk (fill_pad l z (by rw [hN]; exact hz) hlen)
  rw [hN] at hpad
  replace hN := Box.mk hN
  replace hz := Box.mk hz
  go_enter Tryd.func61, Tryd.ntmps61
  go_wp2_with (refine wpList_push2 (wk := w.alloc (.cells firstLit 74)) rfl (.tmp 12) (.tmp 13) rfl B _ l rfl hO1 (w.heap.size + 1) [128] rfl hnw.out hcap.out hsz1.out hB1 ((Keep8.refl _).alloc _) ?_; intro v2 w2 hO2 hB2 hK2 hv2)
  go_loopw [0] (fun s0 wr => ∃ (j n : Nat) (b : Option Addr) (c : Nat), j ≤ z ∧ s0 = .slice b n c ∧ Box (n = N + 1 + j) ∧ Box (wr.ownsRow B 5 1 s0 (fill l j).length ((fill l j).map yc)) ∧ Box (Below B w0 wr) ∧ Keep8 (w.alloc (.cells firstLit 74)) wr) (fun s0 _ => N + 1 + z - lenOf s0)
  case atStart =>
    obtain ⟨b, n, c, rfl, hn⟩ := hv2
    refine ⟨0, n, b, c, Nat.zero_le _, rfl, ⟨?_⟩, hO2, hB2, hK2⟩
    have := hN.out
    simp only [List.length_append, List.length_cons, List.length_nil] at hn; omega
  case round =>
    clear hO2 hB2 hK2 hv2
    obtain ⟨j, n, b, c, hj, rfl, hn, hO, hB, hKp⟩ := hrel
    have hbs : B ≤ wr.heap.size := Nat.le_trans hBs hB.out.size
    by_cases hjz : j < z
    · have ht : ((n : Int) % 64 == 56) = false := by
        have h1 := hn.out; have h2 := hz.out
        simp; omega
      have hB3 : Box (Below B w0 (wr.alloc (.cells #[Value.int .u8 0] 5))) := ⟨hB.out.alloc hbs _⟩
      have hsz : Box (B ≤ (wr.alloc (.cells #[Value.int .u8 0] 5)).heap.size) := ⟨by simp; omega⟩
      have hO3 : Box ((wr.alloc (.cells #[Value.int .u8 0] 5)).ownsRow B 5 1 (.slice b n c) (fill l j).length ((fill l j).map yc)) := ⟨hO.out.alloc _⟩
      have hnw2 : Box (∀ i, i < [(0 : UInt8)].length → (wr.alloc (.cells #[Value.int .u8 0] 5)).cell? ⟨wr.heap.size, i, none⟩ = ([(0 : UInt8)].map yc)[i]?) := ⟨byte_new wr 0⟩
      have hcap2 : Box ((fill l j).length + [(0 : UInt8)].length ≤ 140737488355328) := ⟨by
        have h1 := hN.out; have h2 := hz.out
        rw [fill_length]; simp only [List.length_cons, List.length_nil]; omega⟩
      go_wp2_with (refine wpList_push2 rfl (.tmp 19) (.tmp 20) rfl B _ (fill l j) rfl hO3 wr.heap.size [0] rfl hnw2.out hcap2.out hsz.out hB3 (hKp.alloc _) ?_; intro v3 w3 hO4 hB4 hK4 hv4)
      obtain ⟨b3, n3, c3, rfl, hn3⟩ := hv4
      rw [fill_step, fill_length] at hn3
      rw [fill_step] at hO4
      have hm : N + 1 + z - lenOf (Value.slice b3 n3 c3) < N + 1 + z - lenOf (Value.slice b n c) := by
        have h1 := hN.out; have h2 := hn.out
        simp only [lenOf]; omega
      exact ⟨⟨j + 1, n3, b3, c3, by omega, rfl, ⟨by have := hN.out; omega⟩, hO4, hB4, hK4⟩, hm⟩
    · obtain rfl : j = z := by omega
      have ht : ((n : Int) % 64 == 56) = true := by
        have h1 := hn.out; have h2 := hz.out
        simp; omega
      have hlen2 : (fill l j).length ≤ 140737488355000 := by
        have h1 := hN.out; have h2 := hz.out
        rw [fill_length]; omega
      have hnum := number_any B w0 wr (.slice b n c) (fill l j) (N * 8) 8 (by omega) hO hB hBs hlen2
      rw [hpad.out, show ((N * 8 : Nat) : Int) = (N : Int) * 8 by omega] at hnum
      clear hO hjz
      go_wp2_with fail
      refine hnum.mono ?_
      clear hnum
      rintro e w4 ⟨v4, rfl, hO4, hB4, hK4, hv4⟩
      replace hKp := hKp.trans hK4
      clear hK4 hB
      go_wp2_with fail
      refine (words_any w4).mono ?_
      rintro e w5 ⟨rfl, hb5⟩
      have hB5 : Box (Below B w0 w5) := ⟨hB4.out.trans (hb5.mono (Nat.le_trans hBs hB4.out.size))⟩
      have hV5 : Box (Blk w5 w.heap.size first.cells 74) := ⟨(hKp.out _ _ _ (by decide) hV.out).below hb5 (hKp.out _ _ _ (by decide) hV.out).lt⟩
      have hbs5 : B ≤ w5.heap.size := Nat.le_trans hBs hB5.out.size
      have hO5 : Box (w5.ownsRow B 5 1 v4 (padded l).length ((padded l).map yc)) := ⟨by
        obtain ⟨h1, h2⟩ := hO4.out
        refine ⟨h1, ?_⟩
        rcases h2 with h2 | ⟨g, cap, cur, hv, hg, hh, r⟩
        · exact Or.inl h2
        · refine Or.inr ⟨g, cap, cur, hv, hg, ?_, r⟩
          have hlt : g < w4.heap.size := by
            rcases Nat.lt_or_ge g w4.heap.size with h | h
            · exact h
            · rw [Array.getElem?_eq_none h] at hh; cases hh
          rw [hb5.block g hlt]; exact hh⟩
      clear hO4 hB4 hb5 hKp hv4
      have hU5 : Box ((w5.alloc (.cells zeros64 95)).heap[w5.heap.size]? = some (.cells zeros64 95 (0, 0))) := ⟨heap_alloc_new w5 _⟩
      have hP : Box (0 < (padded l).length ∧ (padded l).length % 64 = 0) := ⟨by
        have h1 := hpad.out; have h2 := hz.out; have h3 := hN.out
        rw [← h1, List.length_append, fill_length, beN_length]; omega⟩
      obtain ⟨g, cap, hv4, hgB, hcells⟩ := own_cells hO5.out hP.out.1
      subst hv4
      have hgv : g ≠ w.heap.size := by
        intro e
        have h1 := hcells 0 hP.out.1
        rw [e, hV5.out.cell 0] at h1
        simp [S8.cells, S8.list] at h1
      have hg5 : g < w5.heap.size := block_lt_of_cell (hcells 0 hP.out.1)
      have hA6 : Below w5.heap.size w5 ((w5.alloc (.cells zeros64 95)).setRow w5.heap.size kWords) := ((Below.refl _ _).alloc (Nat.le_refl _) _).trans ((setRow_save _ _ _ _).below (Nat.le_refl _))
      have hKb : Box (Blk ((w5.alloc (.cells zeros64 95)).setRow w5.heap.size kWords) w5.heap.size (k64.map fun x => Value.int .u32 (U x)) 95) := ⟨by
        have := setRow_blk (zeros64_blk w5) (k64.map fun x => Value.int .u32 (U x))
        rwa [← kWords_eq] at this⟩
      have hV6 : Box (Blk ((w5.alloc (.cells zeros64 95)).setRow w5.heap.size kWords) w.heap.size (stateAt (padded l) 0).cells 74) := ⟨hV5.out.below hA6 hV5.out.lt⟩
      have hC6 : Box (∀ i, i < (padded l).length → ((w5.alloc (.cells zeros64 95)).setRow w5.heap.size kWords).cell? ⟨g, i, none⟩ = some (.int .u8 (Y ((padded l).getD i 0)))) := ⟨fun i hi => by
        rw [hA6.cell (p := ⟨g, i, none⟩) hg5]; exact hcells i hi⟩
      have hB6 : Box (Below B w0 ((w5.alloc (.cells zeros64 95)).setRow w5.heap.size kWords)) := ⟨hB5.out.trans (hA6.mono hbs5)⟩
      have hvb : w.heap.size < w5.heap.size := hV5.out.lt
      have hvB : B ≤ w.heap.size := Nat.le_trans hBs hBw.out.size
      have hpl : (padded l).length ≤ 140737488355000 := by
        have h1 := hpad.out; have h2 := hz.out; have h3 := hN.out
        rw [← h1, List.length_append, fill_length, beN_length]; omega
      obtain ⟨L, hL⟩ : ∃ L, (padded l).length = L := ⟨_, rfl⟩
      rw [hL] at hC6 hP hpl
      replace hcells := Box.mk hcells
      replace hA6 := Box.mk hA6
      clear hV5 hO5
      rw [hL]
      go_wp2_with (refine wpList_store_row rfl 95 (.tmp 5) (.tmp 27) rfl w5.heap.size kWords rfl rfl 95 zeros64 hU5.out info_k rfl kWords_one ?_)
      go_loopw [6] (fun q wr => ∃ i : Nat, 64 * i ≤ L ∧ q = .int .i64 (64 * (i : Int)) ∧ Box (Blk wr w5.heap.size (k64.map fun x => Value.int .u32 (U x)) 95) ∧ Box (Blk wr w.heap.size (stateAt (padded l) i).cells 74) ∧
        Box (∀ i, i < L → wr.cell? ⟨g, i, none⟩ = some (.int .u8 (Y ((padded l).getD i 0)))) ∧ Box (Below B w0 wr)) (fun q _ => L - (intOf q).toNat)
      case atStart => exact ⟨0, by omega, u_eq (by omega), hKb, hV6, hC6, hB6⟩
      case round =>
        clear hKb hV6 hC6 hB6
        obtain ⟨i, hi, rfl, hKb, hVr, hCr, hBr⟩ := hrel
        by_cases hlt : 64 * i < L
        · have hmod := hP.out.2
          have hblk := block_any (stateAt (padded l) i) (blockAt (padded l) i) w5.heap.size g (64 * i) L cap wr (by omega) (by omega)
            (fun j hj => by
              have hl64 : j < k64.length := hj
              rw [hKb.out.cell, List.getElem?_map]; simp [List.getD, hl64])
            (fun j hj => by
              rw [hCr.out (64 * i + j) (by omega), blockAt]
              have h1 : ((padded l).drop (64 * i)).take 64 = ((padded l).drop (64 * i)).take 64 := rfl
              simp [List.getD, List.getElem?_take_of_lt hj, List.getElem?_drop])
          have hst : stateAt (padded l) (i + 1) = comp (blockAt (padded l) i) (stateAt (padded l) i) := rfl
          rw [← hst] at hblk
          obtain ⟨s1, hs1⟩ : ∃ s1, stateAt (padded l) i = s1 := ⟨_, rfl⟩
          obtain ⟨s2, hs2⟩ : ∃ s2, stateAt (padded l) (i + 1) = s2 := ⟨_, rfl⟩
          rw [hs1, hs2, show ((64 * i : Nat) : Int) = 64 * (i : Int) by omega] at hblk
          rw [hs1] at hVr
          replace hs2 := Box.mk hs2
          clear hst hs1
          go_wp2_with (refine wpList_load_row rfl 74 (.tmp 3) rfl w.heap.size rfl 74 s1.cells.toArray (0, 0) _ hVr.out Tryd.underlying74 rfl info_s8 ?_)
          refine hblk.mono ?_
          rintro e w8 ⟨rfl, hb8⟩
          clear hblk
          have hV8 : Box (w8.heap[w.heap.size]? = some (.cells s1.cells.toArray 74 (0, 0))) := ⟨hVr.out.below hb8 hVr.out.lt⟩
          have hV9 : Box (Blk (w8.setRow w.heap.size s2.cells.toArray) w.heap.size (stateAt (padded l) (i + 1)).cells 74) := ⟨by
            rw [hs2.out]; exact setRow_blk (hVr.out.below hb8 hVr.out.lt) _⟩
          have hK9 : Box (Blk (w8.setRow w.heap.size s2.cells.toArray) w5.heap.size (k64.map fun x => Value.int .u32 (U x)) 95) := ⟨(hKb.out.below hb8 hKb.out.lt).setRow_other (by omega) _⟩
          have hS9 := setRow_save w8 w8.heap.size w.heap.size s2.cells.toArray
          have hgr : g < wr.heap.size := block_lt_of_cell (hCr.out 0 (by omega))
          have hC9 : Box (∀ i, i < L → (w8.setRow w.heap.size s2.cells.toArray).cell? ⟨g, i, none⟩ = some (.int .u8 (Y ((padded l).getD i 0)))) := ⟨fun j hj => by
            rw [hS9.cell (p := ⟨g, j, none⟩) (Nat.lt_of_lt_of_le hgr hb8.size) hgv, hb8.cell (p := ⟨g, j, none⟩) hgr]; exact hCr.out j hj⟩
          have hB9 : Box (Below B w0 (w8.setRow w.heap.size s2.cells.toArray)) := ⟨(hBr.out.trans (hb8.mono (Nat.le_trans hBs hBr.out.size))).trans ((setRow_save w8 B w.heap.size s2.cells.toArray).below hvB)⟩
          replace hgr := Box.mk hgr
          replace hS9 := Box.mk hS9
          replace hb8 := Box.mk hb8
          clear hVr hKb hCr hBr
          go_wp2_with (refine wpList_store_row rfl 74 (.tmp 3) (.tmp 37) rfl w.heap.size s2.cells.toArray rfl rfl 74 s1.cells.toArray hV8.out info_s8 rfl (cells_one s2) ?_)
          have hm : L - (intOf (Value.int IntKind.i64 (64 * (i : Int) + 64))).toNat < L - (intOf (Value.int IntKind.i64 (64 * (i : Int)))).toNat := by simp [intOf]; omega
          exact ⟨⟨i + 1, by omega, u_eq (by omega), hK9, hV9, hC9, hB9⟩, hm⟩
        · have hend : L / 64 = i := by omega
          obtain ⟨st, hst⟩ : ∃ st, stateAt (padded l) i = st := ⟨_, rfl⟩
          have hH : Box (hashL l = st.list.flatMap be4) := ⟨by rw [hashL, hL, hend, hst]⟩
          rw [hst] at hVr
          obtain ⟨w9, rfl⟩ : ∃ w9 : World, w9 = wr := ⟨_, rfl⟩
          clear hKb hCr hend
          have hN0 : Box (w9.ownsRow B 5 1 (.slice none 0 0) 0 []) := ⟨World.ownsRow_nil _ _ _ _⟩
          go_wp2_with fail
          go_loopw [7, 8] (fun s7 q wr => ∃ (i : Nat) (o : List UInt8), i ≤ 8 ∧ q = .int .i64 i ∧ Box (o = (st.list.take i).flatMap be4) ∧ Box (wr.ownsRow B 5 1 s7 o.length (o.map yc)) ∧ Box (Blk wr w.heap.size st.cells 74) ∧ Box (Below B w0 wr)) (fun _ q _ => 8 - (intOf q).toNat)
          case atStart => exact ⟨0, [], by omega, rfl, ⟨rfl⟩, hN0, hVr, hBr⟩
          case round =>
            clear hN0 hVr hBr
            obtain ⟨i, o, hi8, rfl, ho, hO, hVr, hBr⟩ := hrel
            by_cases hlt : i < 8
            · have cv := hVr.out.cell i
              rw [cells_get st i hlt] at cv
              obtain ⟨y, hy⟩ : ∃ x, st.list.getD i 0 = x := ⟨_, rfl⟩
              rw [hy] at cv
              have ho2 : Box (o ++ be4 y = (st.list.take (i + 1)).flatMap be4) := ⟨by
                have hl8 : i < st.list.length := hlt
                rw [List.take_succ_eq_append_getElem hl8, List.flatMap_append, ← ho.out, ← hy]
                simp [List.getD, hl8]⟩
              have hol : o.length ≤ 140737488355000 := by
                have := flat4 st i hi8
                rw [← ho.out] at this
                omega
              have hnum := fun v (hO : Box (wr.ownsRow B 5 1 v o.length (o.map yc))) => number_any B w0 wr v o y.toNat 4 (by omega) hO hBr hBs hol
              have hb4 : beN y.toNat 4 = be4 y := by rw [beN_four _ y.isLt]; simp
              rw [hb4] at hnum
              have hyr := U_range y
              have hyw : IntKind.u64.wrap (U y) = U y := IntWalk.u64_in _ (by omega)
              replace hy := Box.mk hy
              go_wp2_with fail
              refine (hnum _ hO).mono ?_
              rintro e w10 ⟨v10, rfl, hO10, hB10, hK10, hv10⟩
              have hV10 : Box (Blk w10 w.heap.size st.cells 74) := ⟨hK10.out _ _ _ (by decide) hVr.out⟩
              clear hnum hO hVr hBr hv10
              go_wp2_with fail
              have hm : 8 - (intOf (Value.int IntKind.i64 (↑i + 1))).toNat < 8 - (intOf (Value.int IntKind.i64 ↑i)).toNat := by simp [intOf]; omega
              exact ⟨⟨i + 1, o ++ be4 y, by omega, by go_num, ho2, hO10, hV10, hB10⟩, hm⟩
            · obtain rfl : i = 8 := by omega
              have h8 := ho.out
              rw [List.take_of_length_le (show st.list.length ≤ 8 from Nat.le_refl 8), ← hH.out] at h8
              rw [h8] at hO
              have hcv := own_text hO.out
              clear hO hVr h8 ho
              go_wp2_with fail
              go_ret
              exact ⟨rfl, hBr⟩
end Go.Proofs.YtdnhpldcnmbncaaDoor
