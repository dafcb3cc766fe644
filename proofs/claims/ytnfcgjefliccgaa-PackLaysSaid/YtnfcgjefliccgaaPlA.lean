/- Walk of the law PackLays: no more than 500 operations. -/
import Derived.Test.YtnfcgjefliccgaaPkZ
import Derived.Test.YtnfcgjefliccgaaPkL
namespace Go.Proofs.Ytnfcgjefliccgaa
open Go.RowKit

/-- Behind i operations both writers have laid the same, or are both spoilt. -/
structure PL (w0 : World) (bw bx i : Nat) (w : World) : Prop where
  out : ∃ v x l lx bad, Both w bw bx v x l lx bad bad ∧ (bad = false → l = lx) ∧ l.length ≤ i * 65537 ∧ lx.length ≤ i * 65537 ∧ (∀ k, v.ownBlock = some k → w0.heap.size ≤ k) ∧ ∀ k, x.ownBlock = some k → w0.heap.size ≤ k
  k : Below w0.heap.size w0 w
  lw : w0.heap.size ≤ bw
  lx : w0.heap.size ≤ bx
theorem Both.keep {w w' : World} {bw bx : Nat} {v x : Value} {l lx : List UInt8} {bad badx : Bool} (h : Both w bw bx v x l lx bad badx) (hb : Below w.heap.size w w') : Both w' bw bx v x l lx bad badx := by
  have hc : Chg (fun k => w.heap.size ≤ k) w w' := Chg.of_below hb
  refine ⟨h.fw.chg hc ?_ fun k hk => ?_, h.fx.chg hc ?_ fun k hk => ?_, h.ap⟩
  · have := h.fw.blk.lt; omega
  · have := h.fw.own.lt k hk; omega
  · have := h.fx.blk.lt; omega
  · have := h.fx.own.lt k hk; omega
theorem PL.keep {w0 w w' : World} {bw bx i : Nat} (h : PL w0 bw bx i w) (hb : Below w.heap.size w w') : PL w0 bw bx i w' := by
  obtain ⟨v, x, l, lx, bad, hB, r⟩ := h.out
  exact ⟨⟨v, x, l, lx, bad, hB.keep hb, r⟩, h.k.trans (hb.mono h.k.size), h.lw, h.lx⟩
theorem lays_len (ok : Bool) (s l : List UInt8) (bad : Bool) (N : Nat) (h : l.length ≤ N) (hs : ok = true → s.length ≤ 65537) : (lays ok s l bad).length ≤ N + 65537 := by
  unfold lays
  cases bad <;> cases ok <;> simp at hs ⊢ <;> omega
theorem laysX_len (ok : Bool) (s l : List UInt8) (N : Nat) (h : l.length ≤ N) (hs : ok = true → s.length ≤ 65537) : (laysX ok s l).length ≤ N + 65537 := by
  unfold laysX
  cases ok <;> simp at hs ⊢ <;> omega
theorem PL.lay {w0 w : World} {bw bx i : Nat} (h : PL w0 bw bx i w) (hi : i ≤ 500) (k : UInt8) (n : Int) (s : ByteArray) (hn : -9223372036854775808 ≤ n ∧ n ≤ 9223372036854775807) (bo : Nat) (cs : List Value) (hbo : Blk w bo cs 31) (hne : bo ≠ bw ∧ bo ≠ bx) :
    Calls Try.prog 8 #[.pointer (some ⟨bw, 0, none⟩), .pointer (some ⟨bx, 0, none⟩), .agg #[.int .u8 (k.toNat : Int), .int .i64 n, .string s]] w
      fun r w' => r = .returned (.tuple #[]) ∧ Box (PL w0 bw bx (i + 1) w') ∧ Blk w' bo cs 31 := by
  obtain ⟨v, x, l, lx, bad, hB, he, h1, h2, h3, h4⟩ := h.out
  refine (lay_any k n s bw bx v x l lx bad bad w hB hn (by omega) (by omega)).mono fun r w' ⟨hr, hN⟩ => ⟨hr, ⟨?_⟩, ?_⟩
  · obtain ⟨v', x', hB', hC, p1, p2⟩ := hN.out
    have hsz := h.k.size
    refine ⟨⟨v', x', _, _, _, hB', ?_, ?_, ?_, fun j hj => ?_, fun j hj => ?_⟩, h.k.trans (hC.below hsz ?_), h.lw, h.lx⟩
    · intro hb
      have hbf : bad = false := by cases bad <;> simp_all
      have hof : opOk k n s = true := by cases h5 : opOk k n s <;> simp_all
      rw [hbf, hof, he hbf]; rfl
    · have := lays_len (opOk k n s) (opL k n s) l bad _ h1 (opL_le k n s); omega
    · have := laysX_len (opOk k n s) (opL k n s) lx _ h2 (opL_le k n s); omega
    · rcases p1 j hj with e | e
      · exact h3 j e
      · omega
    · rcases p2 j hj with e | e
      · exact h4 j e
      · omega
    · rintro j ((rfl | e) | (rfl | e))
      · exact h.lw
      · exact h3 j e
      · exact h.lx
      · exact h4 j e
  · obtain ⟨v', x', hB', hC, p1, p2⟩ := hN.out
    refine hC.blk hbo ?_
    rintro ((e | e) | (e | e))
    · exact hne.1 e
    · exact hB.fw.own.apart hbo (by decide) e
    · exact hne.2 e
    · exact hB.fx.own.apart hbo (by decide) e
theorem PL.lt {w0 w : World} {bw bx i : Nat} (h : PL w0 bw bx i w) : bw < w.heap.size ∧ bx < w.heap.size := by
  obtain ⟨v, x, l, lx, bad, hB, _⟩ := h.out
  exact ⟨hB.fw.blk.lt, hB.fx.blk.lt⟩
theorem PL.bytes {w0 w : World} {bw bx i : Nat} (h : PL w0 bw bx i w) : ∃ (t : ByteArray) (e : Int),
    (Calls Try.prog 9 #[.pointer (some ⟨bw, 0, none⟩)] w fun r w' => r = .returned (.tuple #[.string t, .int .i64 e]) ∧ w = w') ∧
    (Calls Try.prog 10 #[.pointer (some ⟨bx, 0, none⟩)] w fun r w' => r = .returned (.tuple #[.string t, .int .i64 e]) ∧ w = w') := by
  obtain ⟨v, x, l, lx, bad, hB, he, _⟩ := h.out
  have h1 := bytes_any bw v l bad w hB.fw
  have h2 := xbytes_any bx x lx bad w hB.fx
  cases bad with
  | true => exact ⟨ByteArray.empty, 1, h1, h2⟩
  | false =>
    rw [← he rfl] at h2
    exact ⟨⟨l.toArray⟩, 0, h1, h2⟩
/-- A nil writer beside a new one. -/
theorem PL.layn {w0 w : World} {bw bx i : Nat} (h : PL w0 bw bx i w) (k : UInt8) (n : Int) (s : ByteArray) (hn : -9223372036854775808 ≤ n ∧ n ≤ 9223372036854775807) :
    Calls Try.prog 8 #[.pointer none, .pointer (some ⟨w.heap.size, 0, none⟩), .agg #[.int .u8 (k.toNat : Int), .int .i64 n, .string s]] (w.alloc (.cells #[.slice none 0 0, .bool false] 28))
      fun r w' => r = .returned (.tuple #[]) ∧ Box (PL w0 bw bx i w') := by
  refine (layn_any k n s w.heap.size (.slice none 0 0) [] false _ (new_writer w _) hn (by simp)).mono fun r w' ⟨hr, hN⟩ => ⟨hr, ⟨?_⟩⟩
  obtain ⟨v', _, hC, _⟩ := hN.out
  have hC2 := ((Chg.refl (fun _ => False) w).alloc (.cells #[.slice none 0 0, .bool false] 28)).mono (T := fun j => j = w.heap.size ∨ (Value.slice none 0 0).ownBlock = some j) (fun _ _ h => h.elim)
  refine h.keep ((hC2.trans hC fun _ _ h => h).below (Nat.le_refl _) ?_)
  rintro j (rfl | e)
  · exact Nat.le_refl _
  · cases e

set_option maxHeartbeats 3200000 in
set_option maxRecDepth 100000 in
theorem lays_le (ca : Option Addr) (L C : Nat) (w : World) (hL : L ≤ 500) (hLC : L ≤ C)
    (hcut : 0 < L → ∃ cb co, ca = some ⟨cb, co, none⟩ ∧ cb < w.heap.size ∧ ∀ i, i < L → ∃ (k : UInt8) (n : Int) (s : ByteArray), w.cell? ⟨cb, co + i * 3, none⟩ = some (.int .u8 (k.toNat : Int)) ∧ w.cell? ⟨cb, co + i * 3 + 1, none⟩ = some (.int .i64 n) ∧ w.cell? ⟨cb, co + i * 3 + 2, none⟩ = some (.string s) ∧ -9223372036854775808 ≤ n ∧ n ≤ 9223372036854775807) :
    Calls Try.prog 3 #[.slice ca L C] w fun e w' => e = .returned (.bool true) ∧ Below w.heap.size w w' := by
  have hH := lays_any w
  replace hcut := Box.mk hcut
  go_enter Try.func3, Try.ntmps3
  go_wp2_with fail
  refine hH.mono ?_
  rintro e w1 ⟨rfl, hb1⟩
  clear hH
  obtain ⟨w2, hw2⟩ : ∃ w2, w1.alloc (.cells #[.slice none 0 0, .bool false] 26) = w2 := ⟨_, rfl⟩
  obtain ⟨w3, hw3⟩ : ∃ w3, w2.alloc (.cells #[.slice none 0 0, .bool false] 28) = w3 := ⟨_, rfl⟩
  have hP : Box (PL w w1.heap.size w2.heap.size 0 w3) := by
    have a1 : WAt w2 w1.heap.size 26 _ _ _ := hw2 ▸ new_writer w1 _
    have a2 : WAt w3 w2.heap.size 28 _ _ _ := hw3 ▸ new_writer w2 _
    have a3 : WAt w3 w1.heap.size 26 _ _ _ := hw3 ▸ a1.alloc _
    have s1 := hb1.size
    have s2 : w1.heap.size ≤ w2.heap.size := by rw [← hw2]; simp
    have b2 : Below w.heap.size w w2 := hw2 ▸ hb1.alloc s1 _
    have b3 : Below w.heap.size w w3 := hw3 ▸ b2.alloc b2.size _
    have hno : ∀ k, (Value.slice none 0 0).ownBlock = some k → w.heap.size ≤ k := fun k hk => by cases hk
    have hbo : Both w3 w1.heap.size w2.heap.size (.slice none 0 0) (.slice none 0 0) [] [] false false := ⟨a3, a2, fun k hk => by cases hk⟩
    have hout : ∃ v x l lx bad, Both w3 w1.heap.size w2.heap.size v x l lx bad bad ∧ (bad = false → l = lx) ∧ l.length ≤ 0 * 65537 ∧ lx.length ≤ 0 * 65537 ∧ (∀ k, v.ownBlock = some k → w.heap.size ≤ k) ∧ ∀ k, x.ownBlock = some k → w.heap.size ≤ k :=
      ⟨_, _, _, _, _, hbo, fun _ => rfl, by simp, by simp, hno, hno⟩
    exact ⟨⟨hout, b3, s1, by omega⟩⟩
  go_wp2_with fail
  generalize w1.heap.size = bw at hP ⊢
  generalize w2.heap.size = bx at hP ⊢
  clear hb1 hw2 hw3
  go_loopw [22] (fun s22 wr => ∃ i : Nat, i ≤ L ∧ i ≤ 500 ∧ s22 = .int .i64 i ∧ Box (PL w bw bx i wr)) (fun s22 _ => L - (intOf s22).toNat)
  case atStart => exact ⟨0, by omega, by omega, rfl, hP⟩
  case round =>
    clear hP
    obtain ⟨i, hi, hi5, rfl, hP⟩ := hrel
    by_cases hlt : i < L ∧ i < 500
    · obtain ⟨q1, q2⟩ := hlt
      obtain ⟨cb, co, rfl, hcb, hcs⟩ := hcut.out (by omega)
      obtain ⟨k, n, s, d0, d1, d2, hn⟩ := hcs i q1
      rw [← hP.out.k.cell (p := ⟨cb, _, none⟩) hcb] at d0 d1 d2
      have hPa := Box.mk (hP.out.keep ((Below.refl _ _).alloc (Nat.le_refl _) (.cells #[.int .u8 (k.toNat : Int), .int .i64 n, .string s] 31)))
      have hltb := hP.out.lt
      have hnew := Blk.new wr [.int .u8 (k.toNat : Int), .int .i64 n, .string s] 31
      obtain ⟨bo, hbo⟩ : ∃ bo, wr.heap.size = bo := ⟨_, rfl⟩
      have hbr : bo ≠ bw ∧ bo ≠ bx := by omega
      rw [hbo] at hnew
      have hR1 := Box.mk (hPa.out.lay (by omega) k n s hn bo _ hnew hbr)
      replace hnew := Box.mk hnew
      replace hn := Box.mk hn
      replace hbr := Box.mk hbr
      clear hltb hP hcs hPa
      go_wp2_with fail
      refine hR1.out.mono ?_
      rintro r w6 ⟨rfl, hP6, hb6⟩
      have e0 : w6.cell? ⟨bo, 0, none⟩ = some (.int .u8 (k.toNat : Int)) := hb6.cell 0
      have e1 : w6.cell? ⟨bo, 1, none⟩ = some (.int .i64 n) := hb6.cell 1
      have e2 : w6.cell? ⟨bo, 2, none⟩ = some (.string s) := hb6.cell 2
      have hlo := hb6.lt
      have hR2 := Box.mk (hP6.out.layn k n s hn.out)
      clear hR1 hb6 d0 d1 d2 hnew
      go_wp2_with fail
      refine hR2.out.mono ?_
      rintro r w7 ⟨rfl, hP7⟩
      obtain ⟨t, e, b1, b2⟩ := hP7.out.bytes
      replace b1 := Box.mk b1
      replace b2 := Box.mk b2
      clear hR2 e0 e1 e2 hlo hP6
      go_wp2_with fail
      refine b1.out.mono ?_
      rintro r w' ⟨rfl, rfl⟩
      go_wp2_with fail
      refine b2.out.mono ?_
      rintro r w' ⟨rfl, rfl⟩
      clear b1 b2
      go_wp2_with fail
      exact ⟨⟨i + 1, by omega, by omega, by go_num, hP7⟩, by simp [intOf]; omega⟩
    · have hend : ¬ i < L := by omega
      go_wp2_with fail
      refine (bytes_nil wr).mono ?_
      rintro r w' ⟨rfl, rfl⟩
      go_wp2_with fail
      go_ret
      exact ⟨rfl, hP.out.k⟩
end Go.Proofs.Ytnfcgjefliccgaa
