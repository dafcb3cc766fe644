/- Five keys of the document's in a row (ring); a set of some of them (set). | The common example of law 7 (counts). -/
import Derived.Deep.CutRange
import Derived.Deep.Cut
import Derived.Test.YtkchaflijlmpgaaGreatDoorMQa
import Derived.Test.YtkchaflijlmpgaaGreatDoorMKq
import Derived.Test.YtkchaflijlmpgaaGreatDoorRi
namespace Go.Proofs.YtkchaflijlmpgaaGreatDoor
open Go Go.RowKit

def sd (i : Nat) : ByteArray := lt1 (UInt8.ofNat (97 + i))
def ptrs (kb : Nat → Nat) (n : Nat) : List Value := (List.range n).map fun j => .pointer (some ⟨kb j, 0, none⟩)
theorem ptrs_length (kb : Nat → Nat) (n : Nat) : (ptrs kb n).length = n := by simp [ptrs]
theorem ptrs_get (kb : Nat → Nat) (n i : Nat) (hi : i < n) : (ptrs kb n)[i]? = some (.pointer (some ⟨kb i, 0, none⟩)) := by simp [ptrs, hi]
theorem ptrs_succ (kb : Nat → Nat) (n b : Nat) : ptrs (fun j => if j = n then b else kb j) (n + 1) = ptrs kb n ++ [.pointer (some ⟨b, 0, none⟩)] := by
  unfold ptrs
  rw [List.range_succ, List.map_append]
  congr 1
  · apply List.map_congr_left
    intro j hj
    have : j ≠ n := by have := List.mem_range.1 hj; omega
    simp [this]
  · simp
theorem info_kp : (Tryz.prog.info? 36).map (fun i => (i.zero, i.size, i.bytes)) = some (some (.pointer none), 1, 8) := by kernel_rfl
/-- So many keys in a row. -/
structure RgAt (w0 w : World) (n : Nat) (v : Value) : Prop where
  ex : ∃ kb : Nat → Nat, Pk.Row w 36 1 v n (ptrs kb n) ∧ ∀ j, j < n → QKey w (kb j) (sd j) 1 0
  own : ∀ k, v.ownBlock = some k → w0.heap.size ≤ k
  bel : Below w0.heap.size w0 w
theorem row_here {w w' : World} {e : TypeId} {size n : Nat} {v : Value} {xs : List Value} (h : Pk.Row w e size v n xs) (hb : Below w.heap.size w w') : Pk.Row w' e size v n xs := h.chg (chg0 (S := fun _ => False) hb) fun _ _ h => h
theorem RgAt.here {w0 w w' : World} {n : Nat} {v : Value} (h : RgAt w0 w n v) (hb : Below w.heap.size w w') : RgAt w0 w' n v := by
  obtain ⟨kb, h1, h2⟩ := h.ex
  exact ⟨⟨kb, row_here h1 hb, fun j hj => (h2 j hj).here hb⟩, h.own, mono_bel h.bel hb (Nat.le_refl _)⟩
theorem RgAt.base {w0 w1 w : World} {n : Nat} {v : Value} (h : RgAt w1 w n v) (hb : Below w0.heap.size w0 w1) : RgAt w0 w n v :=
  ⟨h.ex, fun k hk => Nat.le_trans hb.size (h.own k hk), mono_bel hb h.bel (Nat.le_refl _)⟩
theorem row_chg_ty {w w' : World} {e : TypeId} {size n : Nat} {v v' : Value} {xs ys : List Value} {m : Nat} (h : Pk.Row w e size v n xs) (hp : Pk.PushedRow w e size v m ys v' w') : ∀ i t, i < w.heap.size → v.ownBlock = some i → Ty w i t → t = e := fun i t _ hi hty => by
  obtain ⟨_, ⟨rfl, _⟩ | ⟨g, cap, cur, rfl, _, hg, _⟩⟩ := h
  · cases hi
  · obtain rfl : g = i := by simpa [Value.ownBlock] using hi
    exact hty.inj ⟨_, hg⟩
theorem RgAt.push {w0 w w1 w2 : World} {n : Nat} {v v' : Value} {b : Nat} (h : RgAt w0 w n v) (kb : Nat → Nat) (h1 : Pk.Row w 36 1 v n (ptrs kb n)) (h2 : ∀ j, j < n → QKey w (kb j) (sd j) 1 0) (hb : Below w.heap.size w w1) (hq : QKey w1 b (sd n) 1 0)
    (hp : Pk.PushedRow w1 36 1 v (n + 1) (ptrs kb n ++ [.pointer (some ⟨b, 0, none⟩)]) v' w2) : RgAt w0 w2 (n + 1) v' := by
  have h1' := row_here h1 hb
  have hty := row_chg_ty h1' hp
  have hsz := h.bel.size
  have hsz1 := hb.size
  refine ⟨⟨fun j => if j = n then b else kb j, ?_, fun j hj => ?_⟩, fun k hk => ?_, ?_⟩
  · rw [ptrs_succ]; exact hp.row
  · have hk : ∀ b' s, QKey w1 b' s 1 0 → QKey w2 b' s 1 0 := fun b' s q => q.keep hp.chg fun i t hi hS hT => by
      have := hty i t hi hS hT
      subst this
      decide
    by_cases e : j = n
    · subst e
      show QKey w2 (if j = j then b else kb j) _ _ _
      rw [if_pos rfl]; exact hk _ _ hq
    · show QKey w2 (if j = n then b else kb j) _ _ _
      rw [if_neg e]; exact hk _ _ ((h2 j (by omega)).here hb)
  · rcases hp.place k hk with h3 | h3
    · exact h.own k h3
    · omega
  · exact (mono_bel h.bel hb (Nat.le_refl _)).trans (hp.chg.below (by omega) fun i hi => h.own i hi)
theorem rune_enc (i : Nat) (hi : i < 5) : Utf8.encode (97 + (i : Int)) = sd i := by
  obtain rfl | rfl | rfl | rfl | rfl : i = 0 ∨ i = 1 ∨ i = 2 ∨ i = 3 ∨ i = 4 := by omega
  all_goals decide +kernel
set_option maxHeartbeats 3200000 in
set_option maxRecDepth 100000 in
theorem ring_any (w : World) :
    Calls Tryz.prog 13 #[] w fun e w' => ∃ v, e = .returned v ∧ RgAt w w' 5 v := by
  have hNew := fun i w1 => r6new_ok (sd i) 1 w1 (by omega) (by show 1 ≤ _; decide)
  obtain ⟨i0, hi, hz0, hz1, hz2⟩ := info_parts info_kp
  have hA0 : Box (RgAt w w 0 (.slice none 0 0)) := ⟨⟨⟨fun _ => 0, Pk.Row.nil _ _ _, fun j hj => by omega⟩, (fun k hk => by cases hk), Below.refl _ _⟩⟩
  replace hNew := Box.mk hNew
  go_enter Tryz.func13, Tryz.ntmps13
  go_wp2_with fail
  go_loopw [1, 2, 3, 4, 5] (fun v1 _ _ _ q wr => ∃ i : Nat, i ≤ 5 ∧ q = .int .i64 (i : Int) ∧ Box (RgAt w wr i v1)) (fun _ _ _ _ q _ => 5 - (intOf q).toNat)
  case atStart => exact ⟨0, by omega, rfl, hA0⟩
  case round =>
    clear hA0
    obtain ⟨i, hi5, rfl, hA⟩ := hrel
    obtain ⟨kb, h1, hks⟩ := hA.out.ex
    obtain ⟨a1, c1, rfl⟩ := h1.shape
    by_cases hlt : i < 5
    · have hN := hNew.out i wr
      obtain ⟨S, hS⟩ : ∃ S, Utf8.encode (97 + (i : Int)) = S := ⟨_, rfl⟩
      have hSs : sd i = S := (rune_enc i hlt).symm.trans hS
      rw [hSs] at hN
      replace hSs := Box.mk hSs
      replace hS := Box.mk hS
      replace h1 := Box.mk h1
      go_wp2_with fail
      rw [hS.out]
      clear hS
      refine hN.mono ?_
      rintro e w2 ⟨rfl, hq2, hb2⟩
      have hA2 := Box.mk hb2
      have hq : Box (QKey w2 wr.heap.size (sd i) 1 0) := ⟨⟨by rw [hSs.out]; exact hq2, by omega⟩⟩
      have h2 := row_here h1.out hb2
      have hs2 : Box (wr.heap.size < w2.heap.size) := ⟨hq.out.lt⟩
      obtain ⟨b, hbe⟩ : ∃ b, wr.heap.size = b := ⟨_, rfl⟩
      rw [hbe] at hq hs2
      replace h2 := Box.mk h2
      clear hN hq2 hb2
      go_wp2_with (at_builtin; refine Pk.wpList_pushR rfl (.tmp 16) (.tmp 18) 33 36 rfl i0 (.pointer none) 1 8 Tryz.underlying33 hi hz0 hz1 hz2 rfl (by decide) _ i (ptrs kb i) rfl (row_here h2.out (bel_alloc _ _)) ⟨w2.heap.size, 0, none⟩ 1 1 [.pointer (some ⟨b, 0, none⟩)] rfl rfl (one_new _ _ _) (by simp [Value.oneCell']) (by unfold maxLen; omega) (by omega) ?_)
      intro v3 w3 hp
      have hA3 : Box (RgAt w w3 (i + 1) v3) := ⟨hA.out.push kb h1.out hks (mono_bel hA2.out (bel_alloc _ _) (Nat.le_refl _)) (hq.out.here (bel_alloc _ _)) hp⟩
      clear hA hA2 hq hs2 h1 h2 hp hbe
      go_wp2_with fail
      exact ⟨⟨i + 1, by omega, by go_num, hA3⟩, by simp [intOf]; omega⟩
    · obtain rfl : i = 5 := by omega
      clear h1
      go_wp2_with fail
      go_ret
      exact ⟨_, rfl, hA.out⟩
/-! ### A set of some of them -/
def bitOn (n j : Nat) : Bool := decide (n / 2 ^ j % 2 = 1)
def setI (n : Nat) : Nat → List ByteArray
  | 0 => []
  | k + 1 => setI n k ++ if bitOn n k then [keyID (sd k) 1, keyID (sd k) 1] else []
theorem setI_length (n : Nat) : ∀ k, (setI n k).length ≤ 2 * k
  | 0 => Nat.le_refl _
  | k + 1 => by
    have := setI_length n k
    rw [setI, List.length_append]
    split
    · simp; omega
    · simp; omega
theorem and_one (m : Nat) (hm : m < 256) : bits .and .u8 (m : Int) 1 = ((m % 2 : Nat) : Int) := by
  have h : ∀ i : Fin 256, bits .and .u8 ((i.val : Nat) : Int) 1 = ((i.val % 2 : Nat) : Int) := by decide +kernel
  exact h ⟨m, hm⟩
theorem RgAt.key {w0 w : World} {n : Nat} {a : Option Addr} {c : Nat} (h : RgAt w0 w n (.slice a n c)) (hn : 0 < n) : ∃ g, a = some ⟨g, 0, none⟩ ∧ w0.heap.size ≤ g ∧ ∃ kb : Nat → Nat, ∀ j, j < n → w.cell? ⟨g, j, none⟩ = some (.pointer (some ⟨kb j, 0, none⟩)) ∧ QKey w (kb j) (sd j) 1 0 := by
  obtain ⟨kb, h1, h2⟩ := h.ex
  obtain ⟨g, c2, e, _⟩ := h1.some hn
  cases e
  exact ⟨g, rfl, h.own g rfl, kb, fun j hj => ⟨h1.cells j _ (ptrs_get kb n j hj), h2 j hj⟩⟩
/-- In set's loop: the ring, the row of IDs. -/
structure StAt (w0 w : World) (g : Nat) (kb : Nat → Nat) (R : List ByteArray) (v : Value) : Prop where
  ring : ∀ j, j < 5 → w.cell? ⟨g, j, none⟩ = some (.pointer (some ⟨kb j, 0, none⟩)) ∧ QKey w (kb j) (sd j) 1 0
  lt : g < w0.heap.size
  kl : ∀ j, j < 5 → QKey w0 (kb j) (sd j) 1 0
  cl : ∀ j, j < 5 → w0.cell? ⟨g, j, none⟩ = some (.pointer (some ⟨kb j, 0, none⟩))
  row : TxR w0.heap.size w v R
  bel : Below w0.heap.size w0 w
theorem StAt.of {w0 w : World} {g : Nat} {kb : Nat → Nat} {R : List ByteArray} {v : Value} (lt : g < w0.heap.size) (kl : ∀ j, j < 5 → QKey w0 (kb j) (sd j) 1 0) (cl : ∀ j, j < 5 → w0.cell? ⟨g, j, none⟩ = some (.pointer (some ⟨kb j, 0, none⟩))) (row : TxR w0.heap.size w v R) (bel : Below w0.heap.size w0 w) : StAt w0 w g kb R v :=
  ⟨fun j hj => ⟨(bel.cell (p := ⟨g, j, none⟩) lt).trans (cl j hj), (kl j hj).here bel⟩, lt, kl, cl, row, bel⟩
theorem StAt.here {w0 w w' : World} {g : Nat} {kb : Nat → Nat} {R : List ByteArray} {v : Value} (h : StAt w0 w g kb R v) (hb : Below w.heap.size w w') : StAt w0 w' g kb R v :=
  StAt.of h.lt h.kl h.cl (h.row.here hb) (mono_bel h.bel hb (Nat.le_refl _))
set_option maxHeartbeats 3200000 in
set_option maxRecDepth 100000 in
theorem set_any (v : Value) (n : Nat) (need : Int) (w0 w : World) (hv : RgAt w0 w 5 v) (hn : n < 256) :
    Calls Tryz.prog 14 #[v, .int .u8 (n : Int), .int .i64 need] w fun e w' => MadeS w.heap.size (ris (setI n 5)) need e w' ∧ Below w.heap.size w w' := by
  obtain ⟨kb0, hr0, _⟩ := hv.ex
  obtain ⟨a, c, rfl⟩ := hr0.shape
  obtain ⟨g, rfl, _, kb, hkb⟩ := hv.key (by omega)
  have hgl : g < w.heap.size := hr0.lt g rfl
  obtain ⟨W0, hW0⟩ : ∃ W0, w.alloc (.cells #[.slice none 0 0, .int .i64 0] 24) = W0 := ⟨_, rfl⟩
  have hB0 : Below w.heap.size w W0 := by rw [← hW0]; exact bel_alloc _ _
  have hR0 : Blk W0 w.heap.size [.slice none 0 0, .int .i64 0] 24 := by rw [← hW0]; exact Blk.new w _ _
  have hA0 : Box (StAt W0 W0 g kb (setI n 0) (.slice none 0 0)) := ⟨StAt.of (Nat.lt_of_lt_of_le hgl hB0.size) (fun j hj => (hkb j hj).2.here hB0) (fun j hj => (hB0.cell (p := ⟨g, j, none⟩) hgl).trans (hkb j hj).1) (TxR.nil _ _) (Below.refl _ _)⟩
  have hID := fun b s w1 (q : QKey w1 b s 1 0) => r6ID_any b s 1 0 w1 q
  have hMk := fun v1 ids w1 (h1 : PartsAt w1 v1 ids) (h2 : ids.length * 16 ≤ 140737488351232) => make_any v1 ids need w1 h1 h2
  replace hID := Box.mk hID
  replace hMk := Box.mk hMk
  replace hB0 := Box.mk hB0
  replace hR0 := Box.mk hR0
  clear hv hr0 hkb
  go_enter Tryz.func14, Tryz.ntmps14
  go_wp2_with fail
  go_loopw [8, 9, 10, 13] (fun v8 _ _ q wr => ∃ i : Nat, i ≤ 5 ∧ q = .int .i64 (i : Int) ∧ Box (StAt W0 wr g kb (setI n i) v8)) (fun _ _ _ q _ => 5 - (intOf q).toNat)
  case atStart => exact ⟨0, by omega, rfl, hA0⟩
  case round =>
    clear hA0 hW0
    obtain ⟨i, hi5, rfl, hA⟩ := hrel
    obtain ⟨a8, c8, e8⟩ := hA.out.row.shape
    have hl8 := setI_length n i
    obtain ⟨n8, hn8⟩ : ∃ m, (setI n i).length = m := ⟨_, rfl⟩
    rw [hn8] at e8 hl8
    subst e8
    by_cases hlt : i < 5
    · obtain ⟨r1, r2⟩ := hA.out.ring i hlt
      have hF := hID.out (kb i) (sd i) wr r2
      have hsx : setI n (i + 1) = setI n i ++ if bitOn n i then [keyID (sd i) 1, keyID (sd i) 1] else [] := rfl
      obtain ⟨y, hy⟩ : ∃ y, keyID (sd i) 1 = y := ⟨_, rfl⟩
      rw [hy] at hF hsx
      obtain ⟨m, hm⟩ : ∃ m, n / 2 ^ i = m := ⟨_, rfl⟩
      have hm256 : m < 256 := by rw [← hm]; exact Nat.lt_of_le_of_lt (Nat.div_le_self _ _) hn
      have hdv : (n : Int) / 2 ^ i = (m : Int) := by rw [← hm]; simp
      have hand := and_one m hm256
      rw [bitOn, hm] at hsx
      replace hsx := Box.mk hsx
      replace hn8 := Box.mk hn8
      replace hF := Box.mk hF
      replace hy := Box.mk hy
      clear hm
      by_cases hb : m % 2 = 1
      · rw [hb] at hand
        have hadd : Box (setI n (i + 1) = setI n i ++ [y, y]) := ⟨by rw [hsx.out, hb]; simp⟩
        go_wp2_with fail
        refine hF.out.mono ?_
        clear hF
        rintro e w1 ⟨rfl, hb1⟩
        have hA1 := Box.mk (hA.out.here hb1)
        have hF := hID.out (kb i) (sd i) w1 (hA1.out.ring i hlt).2
        rw [hy.out] at hF
        clear hb1 hA r1 r2
        go_wp2_with fail
        refine hF.mono ?_
        clear hF
        rintro e w2 ⟨rfl, hb2⟩
        have hA2 := Box.mk (hA1.out.here hb2)
        clear hb2 hA1
        go_wp2_with (at_builtin; refine wpList_pushT rfl (.tmp 23) (.tmp 28) rfl W0.heap.size _ (setI n i) [y, y] rfl (hA2.out.row.here (bel_alloc _ _)) (by have := hA2.out.bel.size; simp; omega) (some ⟨w2.heap.size, 0, none⟩) 2 2 rfl rfl (parts_new w2 [y, y] 9) (by rw [hn8.out]; omega) ?_)
        intro v3 w3 hp3
        have hA3 : Box (StAt W0 w3 g kb (setI n (i + 1)) v3) := ⟨by
          rw [hadd.out]
          exact StAt.of hA2.out.lt hA2.out.kl hA2.out.cl hp3.row (hp3.bel (mono_bel hA2.out.bel (bel_alloc _ _) (Nat.le_refl _)) (hA2.out.row.here (bel_alloc _ _)))⟩
        clear hA2 hp3
        go_wp2_with fail
        exact ⟨⟨i + 1, by omega, by go_num, hA3⟩, by simp [intOf]; omega⟩
      · have hb0 : m % 2 = 0 := by omega
        rw [hb0] at hand
        have hA3 : Box (StAt W0 wr g kb (setI n (i + 1)) (.slice a8 n8 c8)) := ⟨by
          rw [hsx.out, hb0]
          simpa using hA.out⟩
        clear hF hA
        go_wp2_with fail
        exact ⟨⟨i + 1, by omega, by go_num, hA3⟩, by simp [intOf]; omega⟩
    · obtain rfl : i = 5 := by omega
      have hF := hMk.out (.slice a8 n8 c8) (setI n 5) wr hA.out.row.parts (by omega)
      have hR : Box (Blk wr w.heap.size [.slice none 0 0, .int .i64 0] 24) := ⟨hR0.out.below hA.out.bel hR0.out.lt⟩
      have hB : Box (Below w.heap.size w wr) := ⟨mono_bel hB0.out hA.out.bel (Nat.le_refl _)⟩
      have hlt2 : Box (w.heap.size < wr.heap.size) := ⟨hR.out.lt⟩
      clear hA hR0 hB0 hn8 hl8
      go_wp2_with fail
      refine hF.mono ?_
      clear hF
      rintro e w2 ⟨hM, hb2⟩
      have hR2 := hR.out.below hb2 hR.out.lt
      have hB2 := Box.mk (mono_bel hB.out hb2 (Nat.le_refl _))
      have f0 := hR2.free 0
      have f1 := hR2.free 1
      have r0 : w2.cell? ⟨w.heap.size, 0, none⟩ = some (.slice none 0 0) := hR2.cell 0
      have r1 : w2.cell? ⟨w.heap.size, 1, none⟩ = some (.int .i64 0) := hR2.cell 1
      obtain ⟨R, hRe⟩ : ∃ R, ris (setI n 5) = R := ⟨_, rfl⟩
      rw [hRe] at hM
      replace hRe := Box.mk hRe
      rcases hM with ⟨hk, v2, rfl, hT⟩ | ⟨hk, rfl⟩
      · obtain ⟨a2, c2, e2⟩ := hT.shape
        obtain ⟨n2, hn2⟩ : ∃ m, R.length = m := ⟨_, rfl⟩
        rw [hn2] at e2
        subst e2
        have hR6 := (hR2.setCell 0 (.slice a2 n2 c2)).setCell 1 (.int .i64 need)
        have hTz : TxR w.heap.size ((w2.setCell ⟨w.heap.size, 0, none⟩ (.slice a2 n2 c2)).setCell ⟨w.heap.size, 1, none⟩ (.int .i64 need)) (.slice a2 n2 c2) R := ((hT.base (by have := hlt2.out; omega)).set hR2 (by decide) _).set (hR2.setCell 0 _) (by decide) _
        have hzB : Below w.heap.size w ((w2.setCell ⟨w.heap.size, 0, none⟩ (.slice a2 n2 c2)).setCell ⟨w.heap.size, 1, none⟩ (.int .i64 need)) := (hB2.out.setCell (by simp) _).setCell (by simp) _
        replace hR6 := Box.mk hR6
        replace hTz := Box.mk hTz
        replace hzB := Box.mk hzB
        replace hk := Box.mk hk
        clear hT hR hR2 hb2 hB2 hB
        go_wp2_with fail
        obtain ⟨wz, hwz⟩ : ∃ wz, (w2.setCell ⟨w.heap.size, 0, none⟩ (.slice a2 n2 c2)).setCell ⟨w.heap.size, 1, none⟩ (.int .i64 need) = wz := ⟨_, rfl⟩
        rw [hwz] at hR6 hTz hzB ⊢
        have g0 : wz.cell? ⟨w.heap.size, 0, none⟩ = some (.slice a2 n2 c2) := hR6.out.cell 0
        have g1 : wz.cell? ⟨w.heap.size, 1, none⟩ = some (.int .i64 need) := hR6.out.cell 1
        clear hR6 hwz
        exact bodyPost_ret (v := .tuple #[.agg #[.slice a2 n2 c2, .int .i64 need], .int .i64 0]) (by simp [results, Tryz.results14, go_sem, g0, g1]) rfl ⟨by rw [hRe.out]; exact .inl ⟨hk.out, _, rfl, hTz.out⟩, hzB.out⟩
      · have hR6 := (hR2.setCell 0 (.slice none 0 0)).setCell 1 (.int .i64 0)
        have hzB : Below w.heap.size w ((w2.setCell ⟨w.heap.size, 0, none⟩ (.slice none 0 0)).setCell ⟨w.heap.size, 1, none⟩ (.int .i64 0)) := (hB2.out.setCell (by simp) _).setCell (by simp) _
        replace hR6 := Box.mk hR6
        replace hzB := Box.mk hzB
        replace hk := Box.mk hk
        clear hR hR2 hb2 hB2 hB
        go_wp2_with fail
        obtain ⟨wz, hwz⟩ : ∃ wz, (w2.setCell ⟨w.heap.size, 0, none⟩ (.slice none 0 0)).setCell ⟨w.heap.size, 1, none⟩ (.int .i64 0) = wz := ⟨_, rfl⟩
        rw [hwz] at hR6 hzB ⊢
        have g0 : wz.cell? ⟨w.heap.size, 0, none⟩ = some (.slice none 0 0) := hR6.out.cell 0
        have g1 : wz.cell? ⟨w.heap.size, 1, none⟩ = some (.int .i64 0) := hR6.out.cell 1
        clear hR6 hwz
        exact bodyPost_ret (v := .tuple #[.agg #[.slice none 0 0, .int .i64 0], .int .i64 1]) (by simp [results, Tryz.results14, go_sem, g0, g1]) rfl ⟨by rw [hRe.out]; exact .inr ⟨hk.out, rfl⟩, hzB.out⟩
end Go.Proofs.YtkchaflijlmpgaaGreatDoor

namespace Go.Proofs.YtkchaflijlmpgaaGreatDoor
open Go Go.RowKit

/-! ### The three keys -/
theorem sd_0 : sd 0 = lt1 97 := rfl
theorem sd_1 : sd 1 = lt1 98 := rfl
theorem sd_2 : sd 2 = lt1 99 := rfl
def kA : ByteArray := keyID (lt1 97) 1
def kB : ByteArray := keyID (lt1 98) 1
def kC : ByteArray := keyID (lt1 99) 1
theorem set7 : setI 7 5 = [kA, kA, kB, kB, kC, kC] := rfl
theorem strict_nodup {l : List ByteArray} (h : Strict l) : l.Nodup := List.Pairwise.imp (fun {a b} (hab : bl a b = true) => fun e => by subst e; rw [bl_irrefl] at hab; cases hab) h
theorem ris7 : (ris [kA, kA, kB, kB, kC, kC]).Perm [kA, kB, kC] := by
  obtain ⟨h1, h2⟩ := ris_props [kA, kA, kB, kB, kC, kC]
  refine (List.perm_ext_iff_of_nodup (strict_nodup h1) ?_).2 fun x => ?_
  · have hab : kA ≠ kB := id_ab
    have hac : kA ≠ kC := id_ac
    have hbc : kB ≠ kC := id_bc
    simp [hab, hac, hbc]
  · rw [h2]
    simp
theorem key_size (i : Nat) : (keyID (sd i) 1).size = 32 := idV_size _ _
theorem chk_ris (ids : List ByteArray) (need : Int) (h : ∀ x ∈ ids, x.size = 32) (h1 : 1 ≤ need) (h2 : need ≤ ((ris ids).length : Int)) (h3 : (ris ids).length ≤ 16) : chkB (ris ids) need = true := by
  obtain ⟨s1, s2⟩ := ris_props ids
  refine (chkB_iff _ _).2 ⟨h1, h2, h3, fun i hi => ?_⟩
  have hg : (ris ids).getD i ByteArray.empty = (ris ids)[i] := by simp [List.getD, hi]
  have hm : (ris ids)[i] ∈ ids := (s2 _).1 (List.getElem_mem hi)
  rw [okAt, hg, h _ hm]
  by_cases h0 : i = 0
  · simp [h0]
  · have hg2 : (ris ids).getD (i - 1) ByteArray.empty = (ris ids)[i - 1]'(by omega) := by simp [List.getD, show i - 1 < (ris ids).length by omega]
    have := List.pairwise_iff_getElem.1 s1 (i - 1) i (by omega) hi (by omega)
    rw [hg2, this]; simp
def S7 : List ByteArray := ris [kA, kA, kB, kB, kC, kC]
theorem S7_len : S7.length = 3 := ris7.length_eq
theorem S7_chk : chkB S7 2 = true := chk_ris _ 2 (by
  intro x hx
  have : x = kA ∨ x = kB ∨ x = kC := by simpa using hx
  rcases this with rfl | rfl | rfl <;> exact idV_size _ _) (by decide) (by show (2 : Int) ≤ (S7.length : Int); rw [S7_len]; decide) (by show S7.length ≤ 16; rw [S7_len]; decide)
theorem who7 (text : ByteArray) (sg : List (ByteArray × ByteArray)) : (whoL S7 text sg).length = ([kA, kB, kC].filter fun id => sg.any (sgnB id text)).length := (ris7.filter _).length_eq
def sA : ByteArray := keyS (lt1 97) 1 0 (lt1 116)
def sC : ByteArray := keyS (lt1 99) 1 1 (lt1 116)
theorem vA : verE kA (lt1 116) sA = 0 := ver_back (lt1 97) 1 0 (lt1 116) (by decide) (by decide)
theorem vC : verE kC (lt1 116) sC = 0 := ver_back (lt1 99) 1 1 (lt1 116) (by decide) (by decide)
theorem vU : verE kA (lt1 117) sA = 9 := ver_u
theorem ne_ab : kA ≠ kB := id_ab
theorem ne_ac : kA ≠ kC := id_ac
theorem ne_bc : kB ≠ kC := id_bc
theorem fl_yes (A B C a c t : ByteArray) (hab : A ≠ B) (hac : A ≠ C) (hbc : B ≠ C) (va : verE A t a = 0) (vc : verE C t c = 0) : ([A, B, C].filter fun id => [(A, a), (C, c)].any (sgnB id t)).length = 2 := by
  simp [sgnB, va, vc, hab, hac, hac.symm, hbc.symm, List.filter]
theorem fl_one (A B C a t : ByteArray) (hab : A ≠ B) (hac : A ≠ C) (va : verE A t a = 0) : ([A, B, C].filter fun id => [(A, a), (A, a)].any (sgnB id t)).length = 1 := by
  simp [sgnB, va, hab, hac, List.filter]
theorem fl_other (A B C a c u : ByteArray) (hab : A ≠ B) (hac : A ≠ C) (hbc : B ≠ C) (va : verE A u a = 9) : ([A, B, C].filter fun id => [(A, a), (C, c)].any (sgnB id u)).length ≤ 1 := by
  by_cases h : verE C u c = 0
  · simp [sgnB, va, h, hab, hac, hac.symm, hbc.symm, List.filter]
  · simp [sgnB, va, h, hab, hac, hac.symm, hbc.symm, List.filter]
theorem en_yes : enB S7 2 (lt1 116) [(kA, sA), (kC, sC)] = true := by
  have := (who7 (lt1 116) [(kA, sA), (kC, sC)]).trans (fl_yes kA kB kC sA sC (lt1 116) ne_ab ne_ac ne_bc vA vC)
  rw [enB, S7_chk, this]; rfl
theorem en_one : enB S7 2 (lt1 116) [(kA, sA), (kA, sA)] = false := by
  have := (who7 (lt1 116) [(kA, sA), (kA, sA)]).trans (fl_one kA kB kC sA (lt1 116) ne_ab ne_ac vA)
  rw [enB, S7_chk, this]; rfl
theorem en_other : enB S7 2 (lt1 117) [(kA, sA), (kC, sC)] = false := by
  have := fl_other kA kB kC sA sC (lt1 117) ne_ab ne_ac ne_bc vU
  rw [← who7] at this
  rw [enB, S7_chk, Bool.true_and, decide_eq_false_iff_not]
  omega
/-! ### The walk -/
/-- Two signatures in boxes of their own. -/
structure CtZ (W w : World) (b4 b5 : Nat) (i1 s1 i2 s2 : ByteArray) : Prop where
  x : Blk w b4 [.string i1, .string s1] 48
  y : Blk w b5 [.string i2, .string s2] 48
  bel : Below W.heap.size W w
theorem CtZ.here {W w w' : World} {b4 b5 : Nat} {i1 s1 i2 s2 : ByteArray} (h : CtZ W w b4 b5 i1 s1 i2 s2) (hb : Below w.heap.size w w') : CtZ W w' b4 b5 i1 s1 i2 s2 := ⟨h.x.below hb h.x.lt, h.y.below hb h.y.lt, mono_bel h.bel hb (Nat.le_refl _)⟩
structure EnZ (w0 W w : World) (B bS b4 b5 : Nat) (sv : Value) (i1 s1 i2 s2 : ByteArray) : Prop where
  kis : KIs w
  set : Blk w bS [sv, .int .i64 2] 24
  row : TxR B w sv S7
  z : CtZ W w b4 b5 i1 s1 i2 s2
  bel : Below w0.heap.size w0 w
theorem EnZ.here {w0 W w w' : World} {B bS b4 b5 : Nat} {sv : Value} {i1 s1 i2 s2 : ByteArray} (h : EnZ w0 W w B bS b4 b5 sv i1 s1 i2 s2) (hb : Below w.heap.size w w') : EnZ w0 W w' B bS b4 b5 sv i1 s1 i2 s2 :=
  ⟨h.kis.below hb h.kis.lt, h.set.below hb h.set.lt, h.row.here hb, h.z.here hb, mono_bel h.bel hb (Nat.le_refl _)⟩
theorem sigs_two (w : World) (i1 s1 i2 s2 : ByteArray) : SigsAt (w.alloc (.cells #[.string i1, .string s1, .string i2, .string s2] 48)) (.slice (some ⟨w.heap.size, 0, none⟩) 2 2) [(i1, s1), (i2, s2)] :=
  ⟨_, _, rfl, fun _ => ⟨_, _, rfl, by simp, fun i hi => by
    have hb := Blk.new w [.string i1, .string s1, .string i2, .string s2] 48
    have hi2 : i < 2 := hi
    obtain rfl | rfl : i = 0 ∨ i = 1 := by omega
    · exact ⟨hb.cell 0, hb.cell 1⟩
    · exact ⟨hb.cell 2, hb.cell 3⟩⟩⟩
def PC (W : World) : World → Prop := fun w' => Below W.heap.size W w'
theorem PC.st (W : World) : St (PC W) (fun w w' => Below w.heap.size w w') (PC W) := ⟨fun _ h => h, fun _ _ h hb => mono_bel h hb (Nat.le_refl _)⟩
def PB (W : World) (cs : List (Nat × List Value)) : World → Prop := fun w' => Below W.heap.size W w' ∧ ∀ p ∈ cs, Blk w' p.1 p.2 48 ∧ W.heap.size ≤ p.1
theorem PB.st (W : World) (cs : List (Nat × List Value)) : St (PC W) (fun w w' => Below w.heap.size w w') (PB W cs) :=
  ⟨fun _ h => h.1, fun _ _ h hb => ⟨mono_bel h.1 hb (Nat.le_refl _), fun p hp => ⟨(h.2 p hp).1.below hb (h.2 p hp).1.lt, (h.2 p hp).2⟩⟩⟩

theorem PB.one {W w : World} (h : PC W w) : PB W [(w.heap.size, [Value.string ⟨#[]⟩, .string ⟨#[]⟩])] (w.alloc (.cells #[Value.string ⟨#[]⟩, .string ⟨#[]⟩] 48)) :=
  ⟨mono_bel h (bel_alloc _ _) (Nat.le_refl _), fun p hp => by
    obtain rfl : p = (w.heap.size, [Value.string ⟨#[]⟩, .string ⟨#[]⟩]) := by simpa using hp
    exact ⟨Blk.new w [Value.string ⟨#[]⟩, .string ⟨#[]⟩] _, Below.size h⟩⟩
theorem PB.get {W w : World} {l : List (Nat × List Value)} {b : Nat} {cs : List Value} (h : PB W l w) (hm : (b, cs) ∈ l) : Blk w b cs 48 := (h.2 _ hm).1
theorem PB.two {W w : World} {b : Nat} {cs : List Value} (h : PB W [(b, cs)] w) : PB W [(b, cs), (w.heap.size, [Value.string ⟨#[]⟩, .string ⟨#[]⟩])] (w.alloc (.cells #[Value.string ⟨#[]⟩, .string ⟨#[]⟩] 48)) :=
  ⟨mono_bel h.1 (bel_alloc _ _) (Nat.le_refl _), fun p hp => by
    have hp2 : p = (b, cs) ∨ p = (w.heap.size, [Value.string ⟨#[]⟩, .string ⟨#[]⟩]) := by simpa using hp
    rcases hp2 with rfl | rfl
    · exact ⟨(PB.get h (by simp)).below (bel_alloc _ _) (PB.get h (b := b) (cs := cs) (by simp)).lt, (h.2 _ (by simp)).2⟩
    · exact ⟨Blk.new w [Value.string ⟨#[]⟩, .string ⟨#[]⟩] _, Below.size h.1⟩⟩
theorem PB.ne {W w : World} {b : Nat} {cs : List Value} (h : PB W [(b, cs)] w) : b ≠ w.heap.size := fun e => by have := (PB.get h (b := b) (cs := cs) (by simp)).lt; omega
theorem PB.sto1 {W w : World} {b c : Nat} {x0 x1 y0 y1 : Value} {cs : List Value} (h : PB W [(b, [x0, x1]), (c, cs)] w) (hne : b ≠ c) : PB W [(b, [y0, y1]), (c, cs)] ((w.setCell ⟨b, 0, none⟩ y0).setCell ⟨b, 1, none⟩ y1) := by
  have hb := PB.get h (b := b) (cs := [x0, x1]) (by simp)
  have hc := PB.get h (b := c) (cs := cs) (by simp)
  have l1 : W.heap.size ≤ b := (h.2 (b, [x0, x1]) (by simp)).2
  have l2 : W.heap.size ≤ c := (h.2 (c, cs) (by simp)).2
  refine ⟨(Below.setCell h.1 l1 _).setCell l1 _, fun p hp => ?_⟩
  have hp2 : p = (b, [y0, y1]) ∨ p = (c, cs) := by simpa using hp
  rcases hp2 with rfl | rfl
  · exact ⟨(hb.setCell 0 y0).setCell 1 y1, l1⟩
  · exact ⟨(hc.setCell_other _ _ (fun e => hne e.symm)).setCell_other _ _ (fun e => hne e.symm), l2⟩
theorem PB.sto2 {W w : World} {b c : Nat} {x0 x1 y0 y1 : Value} {cs : List Value} (h : PB W [(c, cs), (b, [x0, x1])] w) (hne : c ≠ b) : PB W [(c, cs), (b, [y0, y1])] ((w.setCell ⟨b, 0, none⟩ y0).setCell ⟨b, 1, none⟩ y1) := by
  have hb := PB.get h (b := b) (cs := [x0, x1]) (by simp)
  have hc := PB.get h (b := c) (cs := cs) (by simp)
  have l1 : W.heap.size ≤ b := (h.2 (b, [x0, x1]) (by simp)).2
  have l2 : W.heap.size ≤ c := (h.2 (c, cs) (by simp)).2
  refine ⟨(Below.setCell h.1 l1 _).setCell l1 _, fun p hp => ?_⟩
  have hp2 : p = (c, cs) ∨ p = (b, [y0, y1]) := by simpa using hp
  rcases hp2 with rfl | rfl
  · exact ⟨(hc.setCell_other _ _ (fun e => hne e)).setCell_other _ _ (fun e => hne e), l2⟩
  · exact ⟨(hb.setCell 0 y0).setCell 1 y1, l1⟩
set_option maxHeartbeats 3200000 in
set_option maxRecDepth 100000 in
theorem counts_any (w : World) (hK : KIs w) :
    Calls Tryz.prog 7 #[] w fun e w' => e = .returned (.bool true) ∧ Below w.heap.size w w' := by
  have hR := ring_any w
  have hSet := fun v w1 (h : RgAt w w1 5 v) => set_any v 7 2 w w1 h (by omega)
  rw [set7] at hSet
  have hKB := Box.mk hK
  replace hSet := Box.mk hSet
  clear hK
  go_enter Tryz.func7, Tryz.ntmps7
  go_wp2_with fail
  refine hR.mono ?_
  rintro e w1 ⟨v1, rfl, h1⟩
  have hF := hSet.out v1 w1 h1
  clear hR hSet
  replace h1 := Box.mk h1
  go_wp2_with fail
  refine hF.mono ?_
  rintro e w2 ⟨hM, hb2⟩
  rcases hM with ⟨hk, v2, rfl, hT⟩ | ⟨hk, _⟩
  · have hT7 : TxR w1.heap.size w2 v2 S7 := hT
    have hA2 := h1.out.here hb2
    replace hT7 := Box.mk hT7
    obtain ⟨kb0, hr0, _⟩ := hA2.ex
    obtain ⟨a, c, rfl⟩ := hr0.shape
    obtain ⟨g, rfl, _, kb, hkb⟩ := hA2.key (by omega)
    have hgl : g < w2.heap.size := hr0.lt g rfl
    have hB2 := Box.mk hA2.bel
    obtain ⟨a2, c2, e2⟩ := hT7.out.shape
    rw [S7_len] at e2
    subst e2
    replace hkb := Box.mk hkb
    replace hgl := Box.mk hgl
    clear hF h1 hb2 hk hT hA2 hr0
    obtain ⟨W3, hW3⟩ : ∃ W3, w2.alloc (.cells #[.slice a2 3 c2, .int .i64 2] 24) = W3 := ⟨_, rfl⟩
    have hB23 : Below w2.heap.size w2 W3 := by rw [← hW3]; exact bel_alloc _ _
    have hS3 : Blk W3 w2.heap.size [.slice a2 3 c2, .int .i64 2] 24 := by rw [← hW3]; exact Blk.new w2 _ _
    have hT3 := Box.mk (hT7.out.here hB23)
    have hB3 := Box.mk (mono_bel hB2.out hB23 (Nat.le_refl _))
    have hkb3 : Box (∀ W, Below W3.heap.size W3 W → ∀ j, j < 5 → W.cell? ⟨g, j, none⟩ = some (.pointer (some ⟨kb j, 0, none⟩)) ∧ QKey W (kb j) (sd j) 1 0) := ⟨fun W hW j hj => by
      have hb : Below w2.heap.size w2 W := hB23.trans (hW.mono hB23.size)
      exact ⟨(hb.cell (p := ⟨g, j, none⟩) hgl.out).trans (hkb.out j hj).1, (hkb.out j hj).2.here hb⟩⟩
    obtain ⟨bS, hbS⟩ : ∃ b, w2.heap.size = b := ⟨_, rfl⟩
    rw [hbS] at hS3
    replace hS3 := Box.mk hS3
    clear hkb hgl hB2 hT7 hB23
    go_upto_region 3 with fail
    go_cut [4, 5] from 12 to 29 (fun v4 v5 wc => ∃ b4 b5 : Nat, v4 = .pointer (some ⟨b4, 0, none⟩) ∧ v5 = .pointer (some ⟨b5, 0, none⟩) ∧ Box (CtZ W3 wc b4 b5 kA sA kC sC))
    case first =>
      go_wp2_with fail
      refine region_steady (PC W3) (fun w w' => Below w.heap.size w w') rfl (dB W3) ?_
      refine anyS_calms [0, 1, 2] 19 rfl (fun _ => Below.refl _ _) (PC.st W3) (by kernel_rfl) (by kernel_rfl) (by kernel_rfl) ?_
      simp [nth]
      try simp only [Act.put, List.setIfInBounds_toArray, List.set_cons_succ, List.set_cons_zero]
      repeat (go_big_quiet_step (first | exact fun _ => rfl | rfl))
      refine quiet_val rfl (.pointer (some ⟨kb 0, 0, none⟩)) (fun w' hw' => by have k0 : w'.cell? ⟨g, 0, none⟩ = some (.pointer (some ⟨kb 0, 0, none⟩)) := (hkb3.out w' hw' 0 (by omega)).1; go_simp) ?_
      simp only [Act.put, List.setIfInBounds_toArray, List.set_cons_succ, List.set_cons_zero]
      refine wpQuiet_nil ?_
      refine anyS_call 3 (.string kA) (fun _ => Below.refl _ _) (PC.st W3) (by kernel_rfl) rfl (by kernel_rfl) (by kernel_rfl) rfl (fun w' hw' => r6ID_any (kb 0) (sd 0) 1 0 w' (hkb3.out w' hw' 0 (by omega)).2) (fun w' _ => by go_simp) ?_
      refine anyS_calms [4, 5, 6] 15 rfl (fun _ => Below.refl _ _) (PC.st W3) (by kernel_rfl) (by kernel_rfl) (by kernel_rfl) ?_
      simp [nth]
      try simp only [Act.put, List.setIfInBounds_toArray, List.set_cons_succ, List.set_cons_zero]
      repeat (go_big_quiet_step (first | exact fun _ => rfl | rfl))
      refine quiet_val rfl (.pointer (some ⟨kb 0, 0, none⟩)) (fun w' hw' => by have k0 : w'.cell? ⟨g, 0, none⟩ = some (.pointer (some ⟨kb 0, 0, none⟩)) := (hkb3.out w' hw' 0 (by omega)).1; go_simp) ?_
      simp only [Act.put, List.setIfInBounds_toArray, List.set_cons_succ, List.set_cons_zero]
      refine wpQuiet_nil ?_
      refine anyS_call 7 (.string sA) (fun _ => Below.refl _ _) (PC.st W3) (by kernel_rfl) rfl (by kernel_rfl) (by kernel_rfl) rfl (fun w' hw' => r6at_any (kb 0) (sd 0) (lt1 116) 1 0 0 w' (hkb3.out w' hw' 0 (by omega)).2 (by decide) (by decide) (by decide)) (fun w' _ => by go_simp; rfl) ?_
      refine anyS_calms [8, 9, 10, 11] 10 rfl (fun _ => Below.refl _ _) (PC.st W3) (by kernel_rfl) (by kernel_rfl) (by kernel_rfl) ?_
      simp [nth]
      try simp only [Act.put, List.setIfInBounds_toArray, List.set_cons_succ, List.set_cons_zero]
      repeat (go_big_quiet_step (first | exact fun _ => rfl | rfl))
      refine quiet_val rfl (.pointer (some ⟨kb 2, 0, none⟩)) (fun w' hw' => by have k0 : w'.cell? ⟨g, 2, none⟩ = some (.pointer (some ⟨kb 2, 0, none⟩)) := (hkb3.out w' hw' 2 (by omega)).1; go_simp) ?_
      simp only [Act.put, List.setIfInBounds_toArray, List.set_cons_succ, List.set_cons_zero]
      refine wpQuiet_nil ?_
      refine anyS_call 12 (.string kC) (fun _ => Below.refl _ _) (PC.st W3) (by kernel_rfl) rfl (by kernel_rfl) (by kernel_rfl) rfl (fun w' hw' => r6ID_any (kb 2) (sd 2) 1 0 w' (hkb3.out w' hw' 2 (by omega)).2) (fun w' _ => by go_simp) ?_
      refine anyS_calms [13, 14, 15] 6 rfl (fun _ => Below.refl _ _) (PC.st W3) (by kernel_rfl) (by kernel_rfl) (by kernel_rfl) ?_
      simp [nth]
      try simp only [Act.put, List.setIfInBounds_toArray, List.set_cons_succ, List.set_cons_zero]
      repeat (go_big_quiet_step (first | exact fun _ => rfl | rfl))
      refine quiet_val rfl (.pointer (some ⟨kb 2, 0, none⟩)) (fun w' hw' => by have k0 : w'.cell? ⟨g, 2, none⟩ = some (.pointer (some ⟨kb 2, 0, none⟩)) := (hkb3.out w' hw' 2 (by omega)).1; go_simp) ?_
      simp only [Act.put, List.setIfInBounds_toArray, List.set_cons_succ, List.set_cons_zero]
      refine wpQuiet_nil ?_
      refine anyS_call 16 (.string sC) (fun _ => Below.refl _ _) (PC.st W3) (by kernel_rfl) rfl (by kernel_rfl) (by kernel_rfl) rfl (fun w' hw' => r6at_any (kb 2) (sd 2) (lt1 116) 1 0 1 w' (hkb3.out w' hw' 2 (by omega)).2 (by decide) (by decide) (by decide)) (fun w' _ => by go_simp; rfl) ?_
      refine anyS_calms [17] 4 rfl (fun _ => Below.refl _ _) (PC.st W3) (by kernel_rfl) (by kernel_rfl) (by kernel_rfl) ?_
      simp [nth]
      try simp only [Act.put, List.setIfInBounds_toArray, List.set_cons_succ, List.set_cons_zero]
      repeat (go_big_quiet_step (first | exact fun _ => rfl | rfl))
      refine wpQuiet_nil ?_
      refine anyS_fork 18 19 (by kernel_rfl) rfl rfl rfl rfl (fun wa hWa K hK => ?_) (fun wa hWa K hK => ?_)
      · go_simp
        refine hK _ _ (PB W3 [(wa.heap.size, [Value.string ⟨#[]⟩, .string ⟨#[]⟩])]) (PB.st _ _) (PB.one hWa) ?_
        clear hK K hWa
        generalize wa.heap.size = b4
        clear wa
        refine anyS_forced 19 (by kernel_rfl) rfl rfl (fun wb hWb K hK => ?_)
        go_simp
        refine hK _ _ (PB W3 [(b4, [Value.string ⟨#[]⟩, .string ⟨#[]⟩]), (wb.heap.size, [Value.string ⟨#[]⟩, .string ⟨#[]⟩])]) (PB.st _ _) (PB.two hWb) ?_
        have hne : Box (b4 ≠ wb.heap.size) := ⟨PB.ne hWb⟩
        clear hK K hWb
        generalize wb.heap.size = b5 at hne ⊢
        clear wb
        refine anyS_forced 20 (by kernel_rfl) rfl rfl (fun wd hWd K hK => ?_)
        have q0 : wd.cell? ⟨b4, 0, none⟩ = some (.string ⟨#[]⟩) := (PB.get hWd (b := b4) (cs := [Value.string ⟨#[]⟩, .string ⟨#[]⟩]) (by simp)).cell 0
        have q1 : wd.cell? ⟨b4, 1, none⟩ = some (.string ⟨#[]⟩) := (PB.get hWd (b := b4) (cs := [Value.string ⟨#[]⟩, .string ⟨#[]⟩]) (by simp)).cell 1
        have f0 := (PB.get hWd (b := b4) (cs := [Value.string ⟨#[]⟩, .string ⟨#[]⟩]) (by simp)).free 0
        have f1 := (PB.get hWd (b := b4) (cs := [Value.string ⟨#[]⟩, .string ⟨#[]⟩]) (by simp)).free 1
        go_simp
        refine hK _ _ (PB W3 [(b4, [Value.string kA, .string sA]), (b5, [Value.string ⟨#[]⟩, .string ⟨#[]⟩])]) (PB.st _ _) (PB.sto1 hWd hne.out) ?_
        clear hK K hWd q0 q1 f0 f1 wd
        refine anyS_forced 21 (by kernel_rfl) rfl rfl (fun wd hWd K hK => ?_)
        have q0 : wd.cell? ⟨b5, 0, none⟩ = some (.string ⟨#[]⟩) := (PB.get hWd (b := b5) (cs := [Value.string ⟨#[]⟩, .string ⟨#[]⟩]) (by simp)).cell 0
        have q1 : wd.cell? ⟨b5, 1, none⟩ = some (.string ⟨#[]⟩) := (PB.get hWd (b := b5) (cs := [Value.string ⟨#[]⟩, .string ⟨#[]⟩]) (by simp)).cell 1
        have f0 := (PB.get hWd (b := b5) (cs := [Value.string ⟨#[]⟩, .string ⟨#[]⟩]) (by simp)).free 0
        have f1 := (PB.get hWd (b := b5) (cs := [Value.string ⟨#[]⟩, .string ⟨#[]⟩]) (by simp)).free 1
        go_simp
        refine hK _ _ (PB W3 [(b4, [Value.string kA, .string sA]), (b5, [Value.string kC, .string sC])]) (PB.st _ _) (PB.sto2 hWd hne.out) ?_
        clear hK K hWd q0 q1 f0 f1 wd
        refine anyS_done (by kernel_rfl) (fun wz hWz => ?_)
        go_simp
        have hz : Box (CtZ W3 wz b4 b5 kA sA kC sC) := ⟨⟨PB.get hWz (b := b4) (cs := [.string kA, .string sA]) (by simp), PB.get hWz (b := b5) (cs := [.string kC, .string sC]) (by simp), hWz.1⟩⟩
        go_wp2_with fail
        go_meet
        exact ⟨b4, b5, rfl, rfl, hz⟩
      · go_simp
        refine hK _ _ (PB W3 [(wa.heap.size, [Value.string ⟨#[]⟩, .string ⟨#[]⟩])]) (PB.st _ _) (PB.one hWa) ?_
        clear hK K hWa
        generalize wa.heap.size = b5
        clear wa
        refine anyS_forced 18 (by kernel_rfl) rfl rfl (fun wb hWb K hK => ?_)
        go_simp
        refine hK _ _ (PB W3 [(b5, [Value.string ⟨#[]⟩, .string ⟨#[]⟩]), (wb.heap.size, [Value.string ⟨#[]⟩, .string ⟨#[]⟩])]) (PB.st _ _) (PB.two hWb) ?_
        have hne : Box (b5 ≠ wb.heap.size) := ⟨PB.ne hWb⟩
        clear hK K hWb
        generalize wb.heap.size = b4 at hne ⊢
        clear wb
        refine anyS_forced 20 (by kernel_rfl) rfl rfl (fun wd hWd K hK => ?_)
        have q0 : wd.cell? ⟨b4, 0, none⟩ = some (.string ⟨#[]⟩) := (PB.get hWd (b := b4) (cs := [Value.string ⟨#[]⟩, .string ⟨#[]⟩]) (by simp)).cell 0
        have q1 : wd.cell? ⟨b4, 1, none⟩ = some (.string ⟨#[]⟩) := (PB.get hWd (b := b4) (cs := [Value.string ⟨#[]⟩, .string ⟨#[]⟩]) (by simp)).cell 1
        have f0 := (PB.get hWd (b := b4) (cs := [Value.string ⟨#[]⟩, .string ⟨#[]⟩]) (by simp)).free 0
        have f1 := (PB.get hWd (b := b4) (cs := [Value.string ⟨#[]⟩, .string ⟨#[]⟩]) (by simp)).free 1
        go_simp
        refine hK _ _ (PB W3 [(b5, [Value.string ⟨#[]⟩, .string ⟨#[]⟩]), (b4, [Value.string kA, .string sA])]) (PB.st _ _) (PB.sto2 hWd hne.out) ?_
        clear hK K hWd q0 q1 f0 f1 wd
        refine anyS_forced 21 (by kernel_rfl) rfl rfl (fun wd hWd K hK => ?_)
        have q0 : wd.cell? ⟨b5, 0, none⟩ = some (.string ⟨#[]⟩) := (PB.get hWd (b := b5) (cs := [Value.string ⟨#[]⟩, .string ⟨#[]⟩]) (by simp)).cell 0
        have q1 : wd.cell? ⟨b5, 1, none⟩ = some (.string ⟨#[]⟩) := (PB.get hWd (b := b5) (cs := [Value.string ⟨#[]⟩, .string ⟨#[]⟩]) (by simp)).cell 1
        have f0 := (PB.get hWd (b := b5) (cs := [Value.string ⟨#[]⟩, .string ⟨#[]⟩]) (by simp)).free 0
        have f1 := (PB.get hWd (b := b5) (cs := [Value.string ⟨#[]⟩, .string ⟨#[]⟩]) (by simp)).free 1
        go_simp
        refine hK _ _ (PB W3 [(b5, [Value.string kC, .string sC]), (b4, [Value.string kA, .string sA])]) (PB.st _ _) (PB.sto1 hWd hne.out) ?_
        clear hK K hWd q0 q1 f0 f1 wd
        refine anyS_done (by kernel_rfl) (fun wz hWz => ?_)
        go_simp
        have hz : Box (CtZ W3 wz b4 b5 kA sA kC sC) := ⟨⟨PB.get hWz (b := b4) (cs := [.string kA, .string sA]) (by simp), PB.get hWz (b := b5) (cs := [.string kC, .string sC]) (by simp), hWz.1⟩⟩
        go_wp2_with fail
        go_meet
        exact ⟨b4, b5, rfl, rfl, hz⟩
    case rest =>
      obtain ⟨b4, b5, rfl, rfl, hz⟩ := hcut
      have hKc := hKB.out.below (mono_bel hB3.out hz.out.bel (Nat.le_refl _)) hKB.out.lt
      have hSc := hS3.out.below hz.out.bel hS3.out.lt
      have hTc := hT3.out.here hz.out.bel
      have hBc := mono_bel hB3.out hz.out.bel (Nat.le_refl _)
      have y1 := en_yes
      have y2 := en_one
      have y3 := en_other
      have hA32 : kA.size = 32 := idV_size _ _
      rw [show lt1 117 = (⟨#[117]⟩ : ByteArray) from rfl] at y3
      rw [show lt1 116 = (⟨#[116]⟩ : ByteArray) from rfl] at y1 y2
      generalize kA = A at hz y1 y2 y3 hA32
      generalize kC = C at hz y1 y3
      generalize sA = SA at hz y1 y2 y3
      generalize sC = SC at hz y1 y3
      replace y1 := Box.mk y1
      replace y2 := Box.mk y2
      replace y3 := Box.mk y3
      have p0 : wc.cell? ⟨bS, 0, none⟩ = some (.slice a2 3 c2) := hSc.cell 0
      have p1 : wc.cell? ⟨bS, 1, none⟩ = some (.int .i64 2) := hSc.cell 1
      have x0 : wc.cell? ⟨b4, 0, none⟩ = some (.string A) := hz.out.x.cell 0
      have x1 : wc.cell? ⟨b4, 1, none⟩ = some (.string SA) := hz.out.x.cell 1
      have z0 : wc.cell? ⟨b5, 0, none⟩ = some (.string C) := hz.out.y.cell 0
      have z1 : wc.cell? ⟨b5, 1, none⟩ = some (.string SC) := hz.out.y.cell 1
      clear hKB hS3 hT3 hB3 hW3 hkb3 hbS hA32
      have hE : Box (EnZ w W3 wc w1.heap.size bS b4 b5 (.slice a2 3 c2) A SA C SC) := ⟨⟨hKc, hSc, hTc, hz.out, hBc⟩⟩
      clear hKc hSc hTc hBc hz
      have hF := enough_any (.slice a2 3 c2) S7 2 ⟨#[116]⟩ (.slice (some ⟨wc.heap.size, 0, none⟩) 2 2) [(A, SA), (C, SC)] (wc.alloc (.cells #[.string A, .string SA, .string C, .string SC] 48)) ((hE.out.row.here (bel_alloc _ _)).parts) (by rw [S7_len]; decide) (sigs_two wc _ _ _ _) (by show 2 ≤ maxLen; decide) (hE.out.kis.below (bel_alloc _ _) hE.out.kis.lt) (by decide)
      rw [y1.out] at hF
      go_wp2_with fail
      refine hF.mono ?_
      clear hF p0 p1 x0 x1 z0 z1
      rintro e w5 ⟨rfl, hb⟩
      replace hE := Box.mk ((hE.out.here (bel_alloc _ _)).here hb)
      clear hb
      have p0 : w5.cell? ⟨bS, 0, none⟩ = some (.slice a2 3 c2) := hE.out.set.cell 0
      have p1 : w5.cell? ⟨bS, 1, none⟩ = some (.int .i64 2) := hE.out.set.cell 1
      have x0 : w5.cell? ⟨b4, 0, none⟩ = some (.string A) := hE.out.z.x.cell 0
      have x1 : w5.cell? ⟨b4, 1, none⟩ = some (.string SA) := hE.out.z.x.cell 1
      have z0 : w5.cell? ⟨b5, 0, none⟩ = some (.string C) := hE.out.z.y.cell 0
      have z1 : w5.cell? ⟨b5, 1, none⟩ = some (.string SC) := hE.out.z.y.cell 1
      have hF := enough_any (.slice a2 3 c2) S7 2 ⟨#[116]⟩ (.slice (some ⟨w5.heap.size, 0, none⟩) 2 2) [(A, SA), (A, SA)] (w5.alloc (.cells #[.string A, .string SA, .string A, .string SA] 48)) ((hE.out.row.here (bel_alloc _ _)).parts) (by rw [S7_len]; decide) (sigs_two w5 _ _ _ _) (by show 2 ≤ maxLen; decide) (hE.out.kis.below (bel_alloc _ _) hE.out.kis.lt) (by decide)
      rw [y2.out] at hF
      go_wp2_with fail
      refine hF.mono ?_
      clear hF p0 p1 x0 x1 z0 z1
      rintro e w6 ⟨rfl, hb⟩
      replace hE := Box.mk ((hE.out.here (bel_alloc _ _)).here hb)
      clear hb
      have p0 : w6.cell? ⟨bS, 0, none⟩ = some (.slice a2 3 c2) := hE.out.set.cell 0
      have p1 : w6.cell? ⟨bS, 1, none⟩ = some (.int .i64 2) := hE.out.set.cell 1
      have x0 : w6.cell? ⟨b4, 0, none⟩ = some (.string A) := hE.out.z.x.cell 0
      have x1 : w6.cell? ⟨b4, 1, none⟩ = some (.string SA) := hE.out.z.x.cell 1
      have z0 : w6.cell? ⟨b5, 0, none⟩ = some (.string C) := hE.out.z.y.cell 0
      have z1 : w6.cell? ⟨b5, 1, none⟩ = some (.string SC) := hE.out.z.y.cell 1
      have hF := enough_any (.slice a2 3 c2) S7 2 ⟨#[117]⟩ (.slice (some ⟨w6.heap.size, 0, none⟩) 2 2) [(A, SA), (C, SC)] (w6.alloc (.cells #[.string A, .string SA, .string C, .string SC] 48)) ((hE.out.row.here (bel_alloc _ _)).parts) (by rw [S7_len]; decide) (sigs_two w6 _ _ _ _) (by show 2 ≤ maxLen; decide) (hE.out.kis.below (bel_alloc _ _) hE.out.kis.lt) (by decide)
      rw [y3.out] at hF
      go_wp2_with fail
      refine hF.mono ?_
      clear hF p0 p1 x0 x1 z0 z1
      rintro e w7 ⟨rfl, hb⟩
      replace hE := Box.mk ((hE.out.here (bel_alloc _ _)).here hb)
      clear hb
      go_wp2_with fail
      go_ret
      exact ⟨rfl, hE.out.bel⟩
  · exact absurd (S7_chk.symm.trans hk) (by decide)
end Go.Proofs.YtkchaflijlmpgaaGreatDoor
