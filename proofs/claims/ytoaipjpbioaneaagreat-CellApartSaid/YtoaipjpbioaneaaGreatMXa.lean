/- Walks of the document's writer. | Walks of the document's writer: texts, hashes, what it answers; a nil writer. | The document's cell in memory: Get. | The document's cell: put, pairs by rising names. | The document's cell: Put, Undo. | The document's cell: Undo, Drop. | The document's cell: Bytes. | The document's cell: write. | The document's cell: Put, Drop, Undo, Get beside other things. | The document's Commit, on lists: its loop lays the same pieces. -/
import Derived.BigQuiet
import Derived.Deep.Upon
import Derived.Deep.QuietTactic
import Derived.Test.YtoaipjpbioaneaaGreatPkC
import Derived.Test.YtoaipjpbioaneaaGreatQg
import Derived.Test.YtoaipjpbioaneaaGreatMCn
namespace Go.Proofs.YtoaipjpbioaneaaGreat
open Go.RowKit

set_option maxHeartbeats 800000 in
set_option maxRecDepth 100000 in
theorem num01_any (x k : Nat) (w : World) (hk : k ≤ 8) :
    Calls Tryz.prog 99 #[.slice none 0 0, .int .u64 (x : Int), .int .i64 (k : Int)] w
      fun e w' => ∃ v', e = .returned v' ∧ Own w' v' (beN x k) ∧ Below w.heap.size w w' := by
  go_enter Tryz.func99, Tryz.ntmps99
  go_wp2_with fail
  go_loopw [0, 7] (fun s0 q wr => ∃ (i : Nat) (p : List UInt8), i ≤ k ∧ q = .int .i64 ((i : Int) - 1) ∧ Box (p ++ beN x i = beN x k) ∧ Box (p.length + i = k) ∧ Box (Own wr s0 p) ∧ Box (∀ j, s0.ownBlock = some j → w.heap.size ≤ j) ∧ Box (Below w.heap.size w wr)) (fun _ q _ => (intOf q + 1).toNat)
  case atStart => exact ⟨k, [], Nat.le_refl _, rfl, ⟨rfl⟩, ⟨by simp⟩, ⟨Own.nil _⟩, ⟨fun j hj => by cases hj⟩, ⟨Below.refl _ _⟩⟩
  case round =>
    obtain ⟨i, p, hi, rfl, hp, hpl, hO, hj, hB⟩ := hrel
    by_cases h0 : 0 < i
    · obtain ⟨j, rfl⟩ : ∃ j, i = j + 1 := ⟨i - 1, by omega⟩
      obtain ⟨d, hd⟩ : ∃ d, UInt8.ofNat (x / 2 ^ (8 * j) % 256) = d := ⟨_, rfl⟩
      have hcv : (x : Int) / 2 ^ (8 * j) % 256 = (d.toNat : Int) := by
        rw [← hd, UInt8.toNat_ofNat']
        have h1 : x / 2 ^ (8 * j) % 256 % 2 ^ 8 = x / 2 ^ (8 * j) % 256 := Nat.mod_eq_of_lt (by omega)
        rw [h1]; simp
      replace hd := Box.mk hd
      have hO2 : Box (Own (wr.alloc (.cells #[Value.int .u8 (d.toNat : Int)] 5)) u0 p) := ⟨hO.out.chg ((Chg.refl (fun _ => False) _).alloc _) fun _ _ h => h⟩
      have hB2 : Box (Below w.heap.size w (wr.alloc (.cells #[Value.int .u8 (d.toNat : Int)] 5))) := ⟨hB.out.alloc hB.out.size _⟩
      have hnw := Box.mk (byte_new wr d)
      have hcap : Box (p.length + [d].length ≤ 70368744177664) := ⟨by have := hpl.out; simp only [List.length_cons, List.length_nil]; omega⟩
      clear hO
      go_wp2_with (refine wpList_pushB rfl (.tmp 14) (.tmp 20) rfl u0 p rfl hO2.out wr.heap.size 1 [d] rfl hnw.out hcap.out ?_; intro v2 w2 hp2; replace hp2 := Box.mk hp2)
      have hm : (intOf (Value.int IntKind.i64 ((j : Int) - 1)) + 1).toNat < (intOf (Value.int IntKind.i64 (((j + 1 : Nat) : Int) - 1)) + 1).toNat := by simp [intOf]
      refine ⟨⟨j, p ++ [d], by omega, by go_num, ⟨?_⟩, ⟨?_⟩, ⟨hp2.out.own⟩, ⟨fun q hq => ?_⟩, ⟨hB2.out.trans (hp2.out.chg.below hB2.out.size hj.out)⟩⟩, hm⟩
      · rw [← hp.out, beN, hd.out, List.append_assoc]; rfl
      · have := hpl.out; rw [List.length_append]; simp only [List.length_cons, List.length_nil]; omega
      · rcases hp2.out.place q hq with h | h
        · exact hj.out q h
        · have := hB2.out.size; omega
    · obtain rfl : i = 0 := by omega
      have hp' := hp.out
      rw [beN, List.append_nil] at hp'
      rw [hp'] at hO
      go_wp2_with fail
      go_ret
      exact ⟨_, rfl, hO.out, hB.out⟩
def bstr (l : List UInt8) : ByteArray := ⟨l.toArray⟩
set_option maxHeartbeats 800000 in
set_option maxRecDepth 100000 in
theorem numb01_any (x k : Nat) (w : World) (hk : k ≤ 8) :
    Calls Tryz.prog 77 #[.int .u64 (x : Int), .int .i64 (k : Int)] w
      fun e w' => e = .returned (.string (bstr (beN x k))) ∧ Below w.heap.size w w' := by
  have h1 := num01_any x k w hk
  go_enter Tryz.func77, Tryz.ntmps77
  go_wp2_with fail
  refine h1.mono ?_
  rintro e w1 ⟨v1, rfl, hO, hB⟩
  have hcv := own_text hO
  replace hcv := Box.mk hcv
  replace hB := Box.mk hB
  clear h1 hO
  go_wp2_with fail
  rw [hcv.out]
  go_wp2_with fail
  go_returns
  exact ⟨rfl, hB.out⟩

set_option maxHeartbeats 1600000 in
set_option maxRecDepth 100000 in
theorem xnum_bad (b : Nat) (v : Value) (l : List UInt8) (bad : Bool) (n : Int) (k : Nat) (w : World) (hk : k = 1 ∨ k = 2 ∨ k = 4 ∨ k = 8) (hn : -9223372036854775808 ≤ n ∧ n ≤ 9223372036854775807) (hW : WAt w b 108 v l bad) (hf : fits n k = false) :
    Calls Tryz.prog 53 #[.pointer (some ⟨b, 0, none⟩), .int .i64 n, .int .i64 (k : Int)] w fun e w' => e = .returned (.tuple #[]) ∧ WNext w b 108 v l true w' := by
  have c1 : w.cell? ⟨b, 1, none⟩ = some (.bool bad) := hW.blk.cell 1
  have f1 := hW.blk.free 1
  replace hW := Box.mk hW
  by_cases h0 : n < 0
  · go_enter Tryz.func53, Tryz.ntmps53
    go_wp2_with fail
    go_returns
    exact ⟨rfl, WNext.setBad hW.out (by decide) true⟩
  · obtain rfl | rfl | rfl | rfl := hk
    · have hge : 256 ≤ n := by simp [fits] at hf; omega
      clear hf
      go_enter Tryz.func53, Tryz.ntmps53
      go_wp2_with fail
      go_returns
      exact ⟨rfl, WNext.setBad hW.out (by decide) true⟩
    · have hge : 65536 ≤ n := by simp [fits] at hf; omega
      clear hf
      go_enter Tryz.func53, Tryz.ntmps53
      go_wp2_with fail
      go_returns
      exact ⟨rfl, WNext.setBad hW.out (by decide) true⟩
    · have hge : 4294967296 ≤ n := by simp [fits] at hf; omega
      clear hf
      go_enter Tryz.func53, Tryz.ntmps53
      go_wp2_with fail
      go_returns
      exact ⟨rfl, WNext.setBad hW.out (by decide) true⟩
    · exfalso; simp [fits] at hf; omega
set_option maxHeartbeats 1600000 in
set_option maxRecDepth 100000 in
theorem xnum_fit (b : Nat) (v : Value) (l : List UInt8) (bad : Bool) (n k : Nat) (w : World) (hk : k = 1 ∨ k = 2 ∨ k = 4 ∨ k = 8) (hn : n ≤ 9223372036854775807) (hW : WAt w b 108 v l bad) (hf : fits n k = true) (hlen : l.length ≤ 35184372088832) :
    Calls Tryz.prog 53 #[.pointer (some ⟨b, 0, none⟩), .int .i64 (n : Int), .int .i64 (k : Int)] w fun e w' => e = .returned (.tuple #[]) ∧ WNext w b 108 v (l ++ beN n k) bad w' := by
  have hwn : IntKind.u64.wrap (n : Int) = (n : Int) := by rw [IntKind.wrap_u64]; omega
  have hNum := fun w => numb01_any n k w (by omega)
  have hcap : Box (l.length + (bstr (beN n k)).size ≤ 70368744177664) := ⟨by show l.length + (beN n k).length ≤ _; rw [beN_length]; omega⟩
  have hbd : Box ((bstr (beN n k)).data.toList = beN n k) := ⟨rfl⟩
  generalize bstr (beN n k) = q at hNum hcap hbd
  replace hbd := hbd.out
  obtain ⟨B, hB⟩ : ∃ B, beN n k = B := ⟨_, rfl⟩
  rw [hB] at hbd ⊢
  replace hbd := Box.mk hbd
  replace hW := Box.mk hW
  obtain ⟨a1, c1, rfl⟩ := hW.out.own.shape
  obtain rfl | rfl | rfl | rfl := hk
  all_goals
    have hlt := hf
    simp [fits] at hlt
    clear hf hB
    go_enter Tryz.func53, Tryz.ntmps53
    go_wp2_with fail
    have hWd : Box (WAt w.drew b 108 (.slice a1 l.length c1) l bad) := ⟨hW.out.drew⟩
    have hCd : Box (Chg (fun i => i = b ∨ (Value.slice a1 l.length c1).ownBlock = some i) w w.drew) := ⟨(Chg.refl _ _).drew⟩
    refine region_go (C := fun _ => True) rfl ?_
    generalize w.drew = wd at hWd hCd ⊢
    clear hW
    have k0 : wd.cell? ⟨b, 0, none⟩ = some (.slice a1 l.length c1) := hWd.out.blk.cell 0
    refine go_calms [0, 1, 2, 3, 5, 6, 7] 6 rfl (by kernel_rfl) (by kernel_rfl) (by kernel_rfl) True.intro ?_
    simp [nth]
    repeat (go_big_quiet_step (first | exact fun _ => rfl | rfl))
    refine wpQuiet_nil ?_
    refine go_fork 4 8 (by kernel_rfl) (goOp_wp 4 rfl rfl (fun K hK => ?_)) (goOp_wp 8 rfl rfl (fun K hK => ?_))
    · go_simp
      refine hK _ _ True.intro ?_
      clear hK K
      refine go_forced 8 (by kernel_rfl) (goOp_wp 8 rfl rfl (fun K hK => ?_))
      go_simp
      refine (hNum wd).mono ?_
      rintro e w1 ⟨rfl, hb1⟩
      refine hK _ _ True.intro ?_
      clear hK K k0
      have hcb := Chg.of_below hb1
      have hA1 := Box.mk (hWd.out.chg hcb (by have := hWd.out.blk.lt; omega) (fun j hj => by have := hWd.out.own.lt j hj; omega))
      have hC1 := Box.mk (hCd.out.trans hcb (fun i hi hb => by have := hCd.out.size; omega))
      clear hcb hb1 hWd hCd
      refine go_forced 9 (by kernel_rfl) (goOp_wp 9 rfl rfl (fun K hK => ?_))
      refine wp_pushS (.tmp 26) (.tmp 30) rfl (.slice a1 l.length c1) l rfl hA1.out.own q rfl hcap.out ?_
      intro v2 w2 hp2
      obtain ⟨a2, c2, rfl⟩ := hp2.own.shape
      rw [show (l ++ q.data.toList).length = l.length + q.size by rw [List.length_append, data_len]] at hp2 ⊢
      obtain ⟨k2, k3⟩ := hA1.out.after (by decide) hp2
      replace hp2 := Box.mk hp2
      refine hK _ _ True.intro ?_
      clear hK K
      simp only [Act.put, List.setIfInBounds_toArray]
      refine go_calms [10, 11] 1 rfl (by kernel_rfl) (by kernel_rfl) (by kernel_rfl) True.intro ?_
      simp [nth]
      repeat (go_big_quiet_step (first | exact fun _ => rfl | rfl))
      refine wpQuiet_nil ?_
      refine go_forced 12 (by kernel_rfl) (goOp_wp 12 rfl rfl (fun K hK => ?_))
      go_simp
      refine hK _ _ True.intro ?_
      clear hK K
      refine go_done (by kernel_rfl) ?_
      go_wp2_with fail
      go_returns
      refine ⟨rfl, ?_⟩
      have hS := WNext.trans hA1.out hC1.out (fun k hk => .inl hk) (hA1.out.store (by decide) hp2.out)
      rw [hbd.out] at hS
      exact hS
    · go_simp
      refine (hNum wd).mono ?_
      rintro e w1 ⟨rfl, hb1⟩
      refine hK _ _ True.intro ?_
      clear hK K k0
      have hcb := Chg.of_below hb1
      have hA1 := Box.mk (hWd.out.chg hcb (by have := hWd.out.blk.lt; omega) (fun j hj => by have := hWd.out.own.lt j hj; omega))
      have hC1 := Box.mk (hCd.out.trans hcb (fun i hi hb => by have := hCd.out.size; omega))
      have k0 : w1.cell? ⟨b, 0, none⟩ = some (.slice a1 l.length c1) := hA1.out.blk.cell 0
      clear hcb hb1 hWd hCd
      refine go_forced 4 (by kernel_rfl) (goOp_wp 4 rfl rfl (fun K hK => ?_))
      go_simp
      refine hK _ _ True.intro ?_
      clear hK K
      refine go_forced 9 (by kernel_rfl) (goOp_wp 9 rfl rfl (fun K hK => ?_))
      refine wp_pushS (.tmp 26) (.tmp 30) rfl (.slice a1 l.length c1) l rfl hA1.out.own q rfl hcap.out ?_
      intro v2 w2 hp2
      obtain ⟨a2, c2, rfl⟩ := hp2.own.shape
      rw [show (l ++ q.data.toList).length = l.length + q.size by rw [List.length_append, data_len]] at hp2 ⊢
      obtain ⟨k2, k3⟩ := hA1.out.after (by decide) hp2
      replace hp2 := Box.mk hp2
      refine hK _ _ True.intro ?_
      clear hK K
      simp only [Act.put, List.setIfInBounds_toArray]
      refine go_calms [10, 11] 1 rfl (by kernel_rfl) (by kernel_rfl) (by kernel_rfl) True.intro ?_
      simp [nth]
      repeat (go_big_quiet_step (first | exact fun _ => rfl | rfl))
      refine wpQuiet_nil ?_
      refine go_forced 12 (by kernel_rfl) (goOp_wp 12 rfl rfl (fun K hK => ?_))
      go_simp
      refine hK _ _ True.intro ?_
      clear hK K
      refine go_done (by kernel_rfl) ?_
      go_wp2_with fail
      go_returns
      refine ⟨rfl, ?_⟩
      have hS := WNext.trans hA1.out hC1.out (fun k hk => .inl hk) (hA1.out.store (by decide) hp2.out)
      rw [hbd.out] at hS
      exact hS
end Go.Proofs.YtoaipjpbioaneaaGreat

namespace Go.Proofs.YtoaipjpbioaneaaGreat
open Go.RowKit

/-- What a call of the document's writer leaves. -/
def laysX (ok : Bool) (s l : List UInt8) : List UInt8 := if ok then l ++ s else l
theorem xnum_any (b : Nat) (v : Value) (l : List UInt8) (bad : Bool) (n : Int) (k : Nat) (w : World) (hk : k = 1 ∨ k = 2 ∨ k = 4 ∨ k = 8) (hn : -9223372036854775808 ≤ n ∧ n ≤ 9223372036854775807) (hW : WAt w b 108 v l bad) (hlen : l.length ≤ 35184372088832) :
    Calls Tryz.prog 53 #[.pointer (some ⟨b, 0, none⟩), .int .i64 n, .int .i64 (k : Int)] w fun e w' => e = .returned (.tuple #[]) ∧ WNext w b 108 v (laysX (fits n k) (beN n.toNat k) l) (bad || !fits n k) w' := by
  cases hf : fits n k with
  | false => exact (xnum_bad b v l bad n k w hk hn hW hf).mono fun e w' ⟨he, hN⟩ => ⟨he, by simpa [laysX] using hN⟩
  | true =>
    obtain ⟨m, rfl⟩ : ∃ m : Nat, n = m := ⟨n.toNat, by simp [fits] at hf; omega⟩
    exact (xnum_fit b v l bad m k w hk (by omega) hW hf hlen).mono fun e w' ⟨he, hN⟩ => ⟨he, by simpa [laysX] using hN⟩
set_option maxHeartbeats 800000 in
set_option maxRecDepth 100000 in
theorem xtext_lay (b : Nat) (v : Value) (l : List UInt8) (bad : Bool) (s : ByteArray) (w : World) (hW : WAt w b 108 v l bad) (hlen : l.length ≤ 35184372088000) :
    Calls Tryz.prog 75 #[.pointer (some ⟨b, 0, none⟩), .string s] w fun e w' => e = .returned (.tuple #[]) ∧ WNext w b 108 v (laysX (decide (s.size ≤ 65535)) (textL s) l) (bad || !decide (s.size ≤ 65535)) w' := by
  by_cases hs : s.size ≤ 65535
  · have hN := xnum_any b v l bad s.size 2 w (by omega) (by omega) hW (by omega)
    rw [fits_two _ hs] at hN
    replace hN := Box.mk hN
    have hsB := Box.mk hs
    have hng : ¬ (65535 : Int) < (s.size : Int) := by omega
    replace hW := Box.mk hW
    go_enter Tryz.func75, Tryz.ntmps75
    go_wp2_with fail
    refine hN.out.mono ?_
    rintro e w1 ⟨rfl, hn⟩
    clear hN
    obtain ⟨v1, hA, hC, hP⟩ := hn.out
    simp only [laysX, Bool.not_true, Bool.or_false, if_true, Int.toNat_natCast] at hA
    obtain ⟨L, hL⟩ : ∃ L, l ++ beN s.size 2 = L := ⟨_, rfl⟩
    have hLl : L.length = l.length + 2 := by rw [← hL, List.length_append, beN_length]
    rw [hL] at hA
    replace hL := Box.mk hL
    obtain ⟨a1, c1, rfl⟩ := hA.own.shape
    have k0 : w1.cell? ⟨b, 0, none⟩ = some (.slice a1 L.length c1) := hA.blk.cell 0
    have hcap : Box (L.length + s.size ≤ 70368744177664) := ⟨by omega⟩
    have hO := Box.mk hA.own
    replace hA := Box.mk hA
    replace hC := Box.mk hC
    replace hP := Box.mk hP
    clear hn hs hLl
    go_wp2_with (refine wpList_pushS rfl (.tmp 18) (.tmp 19) rfl (.slice a1 L.length c1) L rfl hO.out s rfl hcap.out ?_; intro v2 w2 hp2; obtain ⟨a2, c2, rfl⟩ := hp2.own.shape; obtain ⟨k2, k3⟩ := hA.out.after (by decide) hp2; replace hp2 := Box.mk hp2)
    go_returns
    refine ⟨rfl, ?_⟩
    have hS := WNext.trans hA.out hC.out hP.out (hA.out.store (by decide) hp2.out)
    rw [show (L ++ s.data.toList).length = L.length + s.size by rw [List.length_append, data_len]] at hS
    generalize w2.setCell { block := b, off := 0 } (Value.slice a2 (L.length + s.size) c2) = w3 at hS
    rw [← hL.out, List.append_assoc] at hS
    simpa [laysX, textL, hsB.out] using hS
  · have c1 : w.cell? ⟨b, 1, none⟩ = some (.bool bad) := hW.blk.cell 1
    have f1 := hW.blk.free 1
    have hg : (65535 : Int) < (s.size : Int) := by omega
    replace hW := Box.mk hW
    have hsB := Box.mk hs
    clear hs
    go_enter Tryz.func75, Tryz.ntmps75
    go_wp2_with fail
    go_returns
    exact ⟨rfl, by simpa [laysX, hsB.out] using WNext.setBad hW.out (by decide) true⟩
end Go.Proofs.YtoaipjpbioaneaaGreat

namespace Go.Proofs.YtoaipjpbioaneaaGreat
open Go.RowKit Go.Maps

def pcs (c : Ct) : List Value := c.flatMap fun p => [.string (btx p.1), .string (btx p.2)]
theorem pcs_len (c : Ct) : (pcs c).length = c.length * 2 := by
  induction c with
  | nil => rfl
  | cons p r ih => show (pcs r).length + 2 = _; rw [ih, List.length_cons]; omega
theorem pcs_app (c d : Ct) : pcs (c ++ d) = pcs c ++ pcs d := List.flatMap_append
theorem pcs_get (c : Ct) : ∀ i (h : i < c.length), (pcs c)[i * 2]? = some (.string (btx (c[i]).1)) ∧ (pcs c)[i * 2 + 1]? = some (.string (btx (c[i]).2)) := by
  induction c with
  | nil => intro i h; cases h
  | cons p r ih =>
    intro i h
    match i with
    | 0 => exact ⟨rfl, rfl⟩
    | i + 1 =>
      have := ih i (by simpa using h)
      rw [show (i + 1) * 2 = i * 2 + 2 by omega]
      exact this
/-- The document's cell in block bq, of the document's device in block bw. -/
structure XelO (bw bq base half : Nat) (M : CellM) (w : World) (F : Nat → Prop) : Prop where
  ok : M.ok base half
  out : ∃ vn vw, Blk w bq [.pointer (some ⟨bw, 0, none⟩), .int .i64 (base : Int), .int .i64 (half : Int), vn, vw, .int .i64 (M.num : Int), .int .i64 (M.last : Int), .bool M.off] 36 ∧ Row w 92 2 vn M.now.length (pcs M.now) ∧ Row w 92 2 vw M.was.length (pcs M.was) ∧ (∀ k, vn.ownBlock = some k → F k) ∧ (∀ k, vw.ownBlock = some k → F k)
  fc : F bq
  lt : ∀ k, F k → k < w.heap.size
theorem XelO.good (bw bq base half : Nat) (M : CellM) : Good (XelO bw bq base half M) where
  lt := fun h => h.lt
  chg := fun h hc hn => by
    obtain ⟨vn, vw, h1, h2, h3, h4, h5⟩ := h.out
    exact ⟨h.ok, ⟨vn, vw, hc.blk h1 (hn _ h.fc), h2.chg hc fun k hk => hn _ (h4 k hk), h3.chg hc fun k hk => hn _ (h5 k hk), h4, h5⟩, h.fc, fun k hk => Nat.lt_of_lt_of_le (h.lt k hk) hc.size⟩
  wide := fun h hG hl => by
    obtain ⟨vn, vw, h1, h2, h3, h4, h5⟩ := h.out
    exact ⟨h.ok, ⟨vn, vw, h1, h2, h3, fun k hk => hG _ (h4 k hk), fun k hk => hG _ (h5 k hk)⟩, hG _ h.fc, hl⟩
def QO (bw : Nat) (D : Dev) : Obj := fun w F => QAt w bw F D
theorem QO.good (bw : Nat) (D : Dev) : Good (QO bw D) where
  lt := fun h => h.lt
  chg := fun h hc hn => h.chg hc hn
  wide := fun h hG hl => h.wide hG hl
theorem xgetC_none {c : Ct} {n : Bs} (h : ∀ j (hj : j < c.length), (c[j]).1 ≠ n) : getC c n = none := by
  unfold getC
  rw [Option.map_eq_none_iff, List.find?_eq_none]
  intro p hp
  obtain ⟨j, hj, rfl⟩ := List.getElem_of_mem hp
  simp [h j hj]
theorem getC_at {c : Ct} {n : Bs} {i : Nat} (hi : i < c.length) (h : ∀ j (hj : j < c.length), j < i → (c[j]).1 ≠ n) (he : (c[i]).1 = n) : getC c n = some (c[i]).2 := by
  unfold getC
  induction c generalizing i with
  | nil => cases hi
  | cons p r ih =>
    match i with
    | 0 => rw [List.find?_cons_of_pos (by simpa using he)]; rfl
    | i + 1 =>
      have h0 : p.1 ≠ n := h 0 (by simp) (by omega)
      rw [List.find?_cons_of_neg (by simpa using h0)]
      exact ih (by simpa using hi) (fun j hj hji => h (j + 1) (by simpa using hj) (by omega)) he
theorem btx_ne {l : Bs} {s : ByteArray} (h : ¬ btx l = s) : l ≠ s.data.toList := fun e => h (by rw [e]; rfl)
theorem toList_ne {s t : ByteArray} (h : ¬ s = t) : (s.toList == t.toList) = false := by
  rw [beq_eq_false_iff_ne, ByteArray.toList_eq, ByteArray.toList_eq]
  intro e
  exact h (ByteArray.ext (Array.ext' e))
set_option maxHeartbeats 3200000 in
set_option maxRecDepth 100000 in
theorem xget_any (bq : Nat) (vn : Value) (c : Ct) (x0 x1 x2 : Value) (cs : List Value) (s : ByteArray) (w : World) (hb : Blk w bq (x0 :: x1 :: x2 :: vn :: cs) 36) (hr : Row w 92 2 vn c.length (pcs c)) (hl : c.length ≤ 1000000) :
    Calls Tryz.prog 54 #[.pointer (some ⟨bq, 0, none⟩), .string s] w fun e w' => e = .returned (getV c s.data.toList) ∧ w = w' := by
  obtain ⟨a, q, rfl⟩ := hr.shape
  have c3 : w.cell? ⟨bq, 3, none⟩ = some (.slice a c.length q) := hb.cell 3
  obtain ⟨N, hN⟩ : ∃ N, c.length = N := ⟨_, rfl⟩
  rw [hN] at c3 hl
  replace hN := Box.mk hN
  replace hr := Box.mk hr
  clear hb
  go_enter Tryz.func54, Tryz.ntmps54
  go_wp2_with fail
  go_loopw [6] (fun s6 wr => ∃ i : Nat, i ≤ N ∧ s6 = .int .i64 i ∧ wr = w ∧ Box (∀ j (hj : j < c.length), j < i → (c[j]).1 ≠ s.data.toList)) (fun s6 _ => N - (intOf s6).toNat)
  case atStart => exact ⟨0, by omega, rfl, rfl, ⟨fun j hj h => by omega⟩⟩
  case round =>
    obtain ⟨i, hi, rfl, rfl, hK⟩ := hrel
    by_cases hlt : i < N
    · have hic : i < c.length := by rw [hN.out]; exact hlt
      obtain ⟨g, gc, e0, hg⟩ := hr.out.some (by omega)
      cases e0
      obtain ⟨p1, p2⟩ := pcs_get c i hic
      have d1 := hr.out.cells (i * 2) _ p1
      have d2 := hr.out.cells (i * 2 + 1) _ p2
      obtain ⟨nm, hnm⟩ : ∃ nm, btx (c[i]).1 = nm := ⟨_, rfl⟩
      obtain ⟨tx, htx⟩ : ∃ tx, btx (c[i]).2 = tx := ⟨_, rfl⟩
      rw [hnm] at d1
      rw [htx] at d2
      by_cases hq : nm = s
      · have hv : Box (getV c s.data.toList = .tuple #[.string tx, .bool true]) := ⟨by
          have := getC_at hic hK.out (n := s.data.toList) (by rw [← hq, ← hnm]; rfl)
          unfold getV; rw [this, ← htx]; rfl⟩
        subst hq
        clear hnm htx p1 p2 hr hK
        go_wp2_with fail
        go_returns
        exact ⟨hv.out ▸ rfl, rfl⟩
      · have hK2 : Box (∀ j (hj : j < c.length), j < i + 1 → (c[j]).1 ≠ s.data.toList) := ⟨fun j hj h => by
          by_cases hji : j < i
          · exact hK.out j hj hji
          · obtain rfl : j = i := by omega
            exact btx_ne (by rw [hnm]; exact hq)⟩
        have hql := toList_ne hq
        clear hnm htx p1 p2 hK d2
        go_wp2_with fail
        exact ⟨⟨i + 1, by omega, by go_num, trivial, hK2⟩, by simp [intOf]; omega⟩
    · have hv : Box (getV c s.data.toList = .tuple #[.string ⟨#[]⟩, .bool false]) := ⟨by
        have := xgetC_none (c := c) (n := s.data.toList) fun j hj => hK.out j hj (by have := hN.out; omega)
        unfold getV; rw [this]; rfl⟩
      clear hr hK
      go_wp2_with fail
      go_returns
      exact ⟨hv.out ▸ rfl, rfl⟩
end Go.Proofs.YtoaipjpbioaneaaGreat

namespace Go.Proofs.YtoaipjpbioaneaaGreat
open Go.RowKit Go.Maps

theorem infoP : (Tryz.prog.info? 92).map (fun i => (i.zero, i.size, i.bytes)) = some (some (.agg #[.string ⟨#[]⟩, .string ⟨#[]⟩]), 2, 32) := by kernel_rfl
section
variable {P : Program} {w : World} {ops : Array Oper} {rest : List Oper} {o : Oper} {a : Act} {Q : Exit → Act → World → Prop}
/-- Nothing is appended. -/
theorem wpList_pushZ (hgd : o.guard = none) (s x : Operand) (t e : TypeId) (ho : o.op = .call { callee := .builtin .append, args := #[s, x], argTypes := #[t, t] }) (i : TypeInfo) (ht : P.underlying t = some (.slice e)) (hi : P.info? e = some i)
    (base : Option Addr) (sLen sCap : Nat) (hle : sLen ≤ sCap) (hv : a.eval s = .slice base sLen sCap) (ad : Option Addr) (c : Nat) (hx : a.eval x = .slice ad 0 c) (k : wpList P ops Q rest (a.put o.dst (.slice base sLen sCap)) w) : wpList P ops Q (o :: rest) a w := by
  have hs : Src P i.size t (.slice ad 0 c) 0 [] w := by
    cases ad with
    | none => exact Src.ofNil w ht c
    | some ad => exact Src.ofSlice w ht ad 0 c [] (by simp) (fun j u hu => by simp at hu) (fun u hu => by cases hu)
  have hr := run_append_nothing (P := P) w t t o.type e i ht hi base sLen sCap hle (.slice ad 0 c) hs
  refine wpList_plain hgd fun K hK => ?_
  unfold Oper.wp
  simp [execOp, ho, resolve, invoke, builtin, hv, hx, hr, Result.andThen]
  exact hK _ _ k
end
/-- In put's loop. -/
structure PL (w : World) (bp : Nat) (nm tx : ByteArray) (c : Ct) (i : Nat) (v : Value) (wr : World) : Prop where
  row : Row wr 92 2 v i (pcs (c.take i))
  own : ∀ k, v.ownBlock = some k → w.heap.size < k
  blk : Blk wr bp [.string nm, .string tx] 92
  k : Below w.heap.size w wr
  e : bp = w.heap.size
theorem PL.keep {w w1 w2 : World} {bp i : Nat} {nm tx : ByteArray} {c : Ct} {v : Value} (h : PL w bp nm tx c i v w1) (hb : Below w1.heap.size w1 w2) : PL w bp nm tx c i v w2 :=
  ⟨h.row.chg (Chg.of_below hb) fun k hk => by have := h.row.lt k hk; omega, h.own, (hb.block bp h.blk.lt).trans h.blk, h.k.trans (hb.mono h.k.size), h.e⟩
theorem pcs_take {c : Ct} {i : Nat} (hi : i < c.length) : pcs (c.take (i + 1)) = pcs (c.take i) ++ [.string (btx (c[i]).1), .string (btx (c[i]).2)] := by
  rw [List.take_succ_eq_append_getElem hi, pcs_app]; rfl
theorem PL.push {w w3 w4 : World} {bp i : Nat} {nm tx : ByteArray} {c : Ct} {v v' : Value} (h : PL w bp nm tx c i v w3) (hi : i < c.length) (p : PushedRow w3 92 2 v (i + 1) (pcs (c.take i) ++ [.string (btx (c[i]).1), .string (btx (c[i]).2)]) v' w4) : PL w bp nm tx c (i + 1) v' w4 := by
  have hs := h.k.size
  have hc := p.chg
  refine ⟨by rw [pcs_take hi]; exact p.row, fun k hk => ?_, hc.blk h.blk fun hk => ?_, h.k.trans (hc.below hs fun k hk => ?_), h.e⟩
  · rcases p.place k hk with hk | hk
    · exact h.own k hk
    · have := h.blk.lt; have := h.e; omega
  · have := h.own _ hk; have := h.e; omega
  · have := h.own k hk; omega
theorem pair_one (x y : ByteArray) : ∀ u ∈ ([.string x, .string y] : List Value), u.oneCell' = true := by
  intro u hu
  have : u = .string x ∨ u = .string y := by simpa using hu
  rcases this with rfl | rfl <;> rfl
theorem pair_cells {w : World} {b : Nat} {x y : ByteArray} {t : TypeId} (h : Blk w b [.string x, .string y] t) : ∀ j u, ([.string x, .string y] : List Value)[j]? = some u → w.cell? ((⟨b, 0, none⟩ : Addr).add j) = some u := by
  intro j u hu
  match j with
  | 0 => exact (h.cell 0).trans hu
  | 1 => exact (h.cell 1).trans hu
  | j + 2 => simp at hu
theorem pair_range {w : World} {g o : Nat} {x y : ByteArray} (h0 : w.cell? ⟨g, o, none⟩ = some (.string x)) (h1 : w.cell? ⟨g, o + 1, none⟩ = some (.string y)) : w.rangeAt g o [.string x, .string y] := by
  intro j u hu
  match j with
  | 0 => exact h0.trans hu
  | 1 => exact h1.trans hu
  | j + 2 => simp at hu
theorem xputC_skip {l r : Ct} {n t : Bs} (h : ∀ p ∈ l, p.1 < n) : putC (l ++ r) n t = l ++ putC r n t := by
  induction l with
  | nil => rfl
  | cons q s ih => rw [List.cons_append, putC, if_pos (h q (by simp)), ih fun p hp => h p (by simp [hp])]; rfl
theorem take_less {c : Ct} {i : Nat} {n : Bs} (h : ∀ j (hj : j < c.length), j < i → (c[j]).1 < n) : ∀ p ∈ c.take i, p.1 < n := by
  intro p hp
  obtain ⟨j, hj, rfl⟩ := List.getElem_of_mem hp
  rw [List.length_take] at hj
  rw [List.getElem_take]
  exact h j (by omega) (by omega)
theorem putC_end {c : Ct} {n t : Bs} (h : ∀ j (hj : j < c.length), j < c.length → (c[j]).1 < n) : putC c n t = c ++ [(n, t)] := by
  have := take_less h
  rw [List.take_length] at this
  have e := xputC_skip (r := []) (n := n) (t := t) this
  rw [List.append_nil] at e
  exact e
theorem putC_here {c : Ct} {i : Nat} {n t : Bs} (h : ∀ j (hj : j < c.length), j < i → (c[j]).1 < n) (hi : i < c.length) (hl : ¬ (c[i]).1 < n) : putC c n t = c.take i ++ (n, t) :: c.drop (if (c[i]).1 = n then i + 1 else i) := by
  have e : c = c.take i ++ c[i] :: c.drop (i + 1) := by rw [← List.drop_eq_getElem_cons hi, List.take_append_drop]
  have e2 := xputC_skip (r := c[i] :: c.drop (i + 1)) (n := n) (t := t) (take_less h)
  rw [← e] at e2
  rw [e2]
  congr 1
  show (if (c[i]).1 < n then _ else if (c[i]).1 = n then _ else _) = _
  rw [if_neg hl]
  by_cases hq : (c[i]).1 = n
  · rw [if_pos hq, if_pos hq]
  · rw [if_neg hq, if_neg hq, ← List.drop_eq_getElem_cons hi]
theorem pcs_drop (c : Ct) (i : Nat) : pcs (c.drop i) = (pcs c).drop (i * 2) := by
  induction c generalizing i with
  | nil => simp [pcs]
  | cons p r ih =>
    match i with
    | 0 => simp
    | i + 1 =>
      rw [List.drop_succ_cons, ih, show (i + 1) * 2 = i * 2 + 2 by omega]
      show _ = (Value.string (btx p.1) :: Value.string (btx p.2) :: pcs r).drop (i * 2 + 2)
      rfl
theorem pcs_one (c : Ct) : ∀ u ∈ pcs c, u.oneCell' = true := by
  intro u hu
  obtain ⟨p, _, hp⟩ := List.mem_flatMap.1 hu
  exact pair_one _ _ u hp
/-- A new pair is behind the lesser ones. -/
structure PT (w : World) (bp : Nat) (nm tx : ByteArray) (c : Ct) (i : Nat) (v : Value) (wr : World) : Prop where
  row : Row wr 92 2 v (i + 1) (pcs (c.take i) ++ [.string nm, .string tx])
  own : ∀ k, v.ownBlock = some k → w.heap.size < k
  blk : Blk wr bp [.string nm, .string tx] 92
  k : Below w.heap.size w wr
  e : bp = w.heap.size
theorem PT.keep {w w1 w2 : World} {bp i : Nat} {nm tx : ByteArray} {c : Ct} {v : Value} (h : PT w bp nm tx c i v w1) (hb : Below w1.heap.size w1 w2) : PT w bp nm tx c i v w2 :=
  ⟨h.row.chg (Chg.of_below hb) fun k hk => by have := h.row.lt k hk; omega, h.own, (hb.block bp h.blk.lt).trans h.blk, h.k.trans (hb.mono h.k.size), h.e⟩
theorem PL.new {w w3 w4 : World} {bp i : Nat} {nm tx : ByteArray} {c : Ct} {v v' : Value} (h : PL w bp nm tx c i v w3) (p : PushedRow w3 92 2 v (i + 1) (pcs (c.take i) ++ [.string nm, .string tx]) v' w4) : PT w bp nm tx c i v' w4 := by
  have hs := h.k.size
  have hc := p.chg
  refine ⟨p.row, fun k hk => ?_, hc.blk h.blk fun hk => ?_, h.k.trans (hc.below hs fun k hk => ?_), h.e⟩
  · rcases p.place k hk with hk | hk
    · exact h.own k hk
    · have := h.blk.lt; have := h.e; omega
  · have := h.own _ hk; have := h.e; omega
  · have := h.own k hk; omega
def Put04 (w : World) (c : Ct) (nm tx : ByteArray) (v : Value) (w' : World) : Prop :=
  Row w' 92 2 v (putC c nm.data.toList tx.data.toList).length (pcs (putC c nm.data.toList tx.data.toList)) ∧ (∀ k, v.ownBlock = some k → w.heap.size ≤ k) ∧ Below w.heap.size w w'
theorem PT.done {w w5 w6 : World} {bp i m : Nat} {nm tx : ByteArray} {c d : Ct} {v v' : Value} (h : PT w bp nm tx c i v w5) (hi : i ≤ c.length) (hd : putC c nm.data.toList tx.data.toList = c.take i ++ (nm.data.toList, tx.data.toList) :: d) (hm : d.length = m)
    (p : PushedRow w5 92 2 v (i + 1 + m) (pcs (c.take i) ++ [.string nm, .string tx] ++ pcs d) v' w6) : Put04 w c nm tx v' w6 := by
  have hs := h.k.size
  have hc := p.chg
  refine ⟨?_, fun k hk => ?_, h.k.trans (hc.below hs fun k hk => ?_)⟩
  · have hr := p.row
    have e1 : (putC c nm.data.toList tx.data.toList).length = i + 1 + m := by rw [hd, List.length_append, List.length_take, List.length_cons, hm]; omega
    have e2 : pcs (putC c nm.data.toList tx.data.toList) = pcs (c.take i) ++ [.string nm, .string tx] ++ pcs d := by
      rw [hd, pcs_app, List.append_assoc]; rfl
    rw [e1, e2]
    exact hr
  · rcases p.place k hk with hk | hk
    · have := h.own k hk; omega
    · omega
  · have := h.own k hk; omega
theorem PT.same {w w5 : World} {bp i : Nat} {nm tx : ByteArray} {c : Ct} {v : Value} (h : PT w bp nm tx c i v w5) (hi : i = c.length) (hd : putC c nm.data.toList tx.data.toList = c ++ [(nm.data.toList, tx.data.toList)]) : Put04 w c nm tx v w5 := by
  subst hi
  refine ⟨?_, fun k hk => by have := h.own k hk; omega, h.k⟩
  have hr := h.row
  rw [List.take_length] at hr
  rw [hd, pcs_app, List.length_append]
  exact hr
set_option maxHeartbeats 6400000 in
set_option maxRecDepth 100000 in
theorem xput_any (v0 : Value) (c : Ct) (nm tx : ByteArray) (w : World) (hr : Row w 92 2 v0 c.length (pcs c)) (hl : c.length ≤ 1000) :
    Calls Tryz.prog 55 #[v0, .agg #[.string nm, .string tx]] w fun e w' => ∃ v, e = .returned v ∧ Put04 w c nm tx v w' := by
  obtain ⟨a, q, rfl⟩ := hr.shape
  obtain ⟨wb, hwb⟩ : ∃ wb, w.alloc (.cells #[.string nm, .string tx] 92) = wb := ⟨_, rfl⟩
  have hnb := Blk.new w [.string nm, .string tx] 92
  rw [hwb] at hnb
  have hb0 : Below w.heap.size w wb := hwb ▸ (Below.refl _ _).alloc (Nat.le_refl _) _
  obtain ⟨bp, hbp⟩ : ∃ bp, w.heap.size = bp := ⟨_, rfl⟩
  rw [hbp] at hnb
  have hP0 : Box (PL w bp nm tx c 0 (.slice none 0 0) wb) := ⟨⟨Row.nil _ _ _, fun k hk => by (cases hk), hnb, hb0, hbp.symm⟩⟩
  obtain ⟨iP, hiP, hzP, hsP, hbP⟩ := info_parts infoP
  have hH := Box.mk (And.intro hiP (And.intro hzP (And.intro hsP hbP)))
  obtain ⟨N, hN⟩ : ∃ N, c.length = N := ⟨_, rfl⟩
  rw [hN] at hr hl ⊢
  replace hN := Box.mk hN
  replace hr := Box.mk hr
  clear hnb hb0 hiP hzP hsP hbP
  go_enter Tryz.func55, Tryz.ntmps55
  go_wp2_with fail
  go_loopw [6, 5] (fun s6 s5 wr => ∃ i : Nat, i ≤ N ∧ s6 = .int .i64 i ∧ Box (PL w bp nm tx c i s5 wr) ∧ Box (∀ j (hj : j < c.length), j < i → (c[j]).1 < nm.data.toList)) (fun s6 _ _ => N - (intOf s6).toNat)
  case atStart => exact ⟨0, by omega, rfl, hP0, ⟨fun j hj h => by omega⟩⟩
  case round =>
    clear hP0
    obtain ⟨i, hi, rfl, hK, hS⟩ := hrel
    by_cases hlt : i < N
    · have hic : i < c.length := by rw [hN.out]; exact hlt
      obtain ⟨g, gc, e0, hg⟩ := hr.out.some (by omega)
      cases e0
      obtain ⟨p1, p2⟩ := pcs_get c i hic
      have d1 := hr.out.cells (i * 2) _ p1
      have d2 := hr.out.cells (i * 2 + 1) _ p2
      rw [← hK.out.k.cell (p := ⟨g, _, none⟩) hg] at d1 d2
      have b0 : wr.cell? ⟨bp, 0, none⟩ = some (.string nm) := hK.out.blk.cell 0
      have b1 : wr.cell? ⟨bp, 1, none⟩ = some (.string tx) := hK.out.blk.cell 1
      obtain ⟨n1, hn1⟩ : ∃ nm, btx (c[i]).1 = nm := ⟨_, rfl⟩
      obtain ⟨t1, ht1⟩ : ∃ tx, btx (c[i]).2 = tx := ⟨_, rfl⟩
      rw [hn1] at d1
      rw [ht1] at d2
      have hlt' : (i : Int) < (N : Int) := by omega
      by_cases hls : (c[i]).1 < nm.data.toList
      · have hbl : Op.bytesLess n1.toList nm.toList = true := by
          rw [bless, ← hn1, btx_toList, ByteArray.toList_eq]; exact decide_eq_true hls
        have hS2 : Box (∀ j (hj : j < c.length), j < i + 1 → (c[j]).1 < nm.data.toList) := ⟨fun j hj h => by
          by_cases hji : j < i
          · exact hS.out j hj hji
          · obtain rfl : j = i := by omega
            exact hls⟩
        go_wp2_with fail
        refine wp_region_quiet_lit (by kernel_rfl) (by kernel_rfl) ?_
        repeat (go_big_quiet_step (first | exact fun _ => rfl | rfl))
        refine wpQuiet_nil ?_
        rintro w2 ⟨r, rfl⟩
        have hK2 := Box.mk (hK.out.keep (below_drewN _ wr r))
        have hx := Box.mk (pair_range (w := wr.drewN r) d1 d2)
        generalize wr.drewN r = w2 at hK2 hx ⊢
        obtain ⟨w3, hw3⟩ : ∃ w3, w2.alloc (.cells #[.string n1, .string t1] 92) = w3 := ⟨_, rfl⟩
        have hb3 := Blk.new w2 [.string n1, .string t1] 92
        rw [hw3] at hb3
        have hK3 := Box.mk (hK2.out.keep (hw3 ▸ (Below.refl _ _).alloc (Nat.le_refl _) _ : Below w2.heap.size w2 w3))
        obtain ⟨bs, hbs⟩ : ∃ bs, w2.heap.size = bs := ⟨_, rfl⟩
        rw [hbs] at hb3
        replace hb3 := Box.mk hb3
        clear hK d1 d2 b0 b1 hS hK2
        go_wp2_with (first
          | (refine wpList_load_mid (cs := [.string n1, .string t1]) rfl 92 (.tmp 24) rfl g (i * 2) rfl _ hx.out Tryz.underlying92 rfl (by kernel_rfl) ?_)
          | (refine wpList_pushR rfl (.tmp 21) (.tmp 26) 34 92 rfl iP (.agg #[.string ⟨#[]⟩, .string ⟨#[]⟩]) 2 32 Tryz.underlying34 hH.out.1 hH.out.2.1 hH.out.2.2.1 hH.out.2.2.2 rfl (by omega) _ i (pcs (c.take i)) rfl hK3.out.row ⟨bs, 0, none⟩ 1 1 [.string n1, .string t1] rfl rfl (pair_cells hb3.out) (pair_one _ _) (by unfold maxLen; omega) (by omega) ?_; intro v4 w4 hp4; have hK4 := Box.mk (hK3.out.push hic (by rw [hn1, ht1]; exact hp4)); clear hp4))
        exact ⟨⟨i + 1, by omega, by go_num, hK4, hS2⟩, by simp [intOf]; omega⟩
      · have hbl : Op.bytesLess n1.toList nm.toList = false := by
          rw [bless, ← hn1, btx_toList, ByteArray.toList_eq]; exact decide_eq_false hls
        have hmid := Box.mk (putC_here (t := tx.data.toList) hS.out hic hls)
        go_wp2_with fail
        refine wp_region_quiet_lit (by kernel_rfl) (by kernel_rfl) ?_
        repeat (go_big_quiet_step (first | exact fun _ => rfl | rfl))
        refine wpQuiet_nil ?_
        rintro w2 ⟨r, rfl⟩
        have hK2 := Box.mk (hK.out.keep (below_drewN _ wr r))
        replace b0 : (wr.drewN r).cell? ⟨bp, 0, none⟩ = some (.string nm) := b0
        replace b1 : (wr.drewN r).cell? ⟨bp, 1, none⟩ = some (.string tx) := b1
        generalize wr.drewN r = w2 at hK2 b0 b1 ⊢
        have hx := Box.mk (pair_range (w := w2) (g := bp) (o := 0) b0 b1)
        obtain ⟨w3, hw3⟩ : ∃ w3, w2.alloc (.cells #[.string nm, .string tx] 92) = w3 := ⟨_, rfl⟩
        have hb3 := Blk.new w2 [.string nm, .string tx] 92
        rw [hw3] at hb3
        have hK3 := Box.mk (hK2.out.keep (hw3 ▸ (Below.refl _ _).alloc (Nat.le_refl _) _ : Below w2.heap.size w2 w3))
        obtain ⟨bs, hbs⟩ : ∃ bs, w2.heap.size = bs := ⟨_, rfl⟩
        rw [hbs] at hb3
        replace hb3 := Box.mk hb3
        clear hK d1 d2 b0 b1 hS hK2
        go_wp2_with (first
          | (refine wpList_load_mid (cs := [.string nm, .string tx]) rfl 92 (.tmp 3) rfl bp 0 rfl _ hx.out Tryz.underlying92 rfl (by kernel_rfl) ?_)
          | (refine wpList_pushR rfl (.tmp 30) (.tmp 32) 34 92 rfl iP (.agg #[.string ⟨#[]⟩, .string ⟨#[]⟩]) 2 32 Tryz.underlying34 hH.out.1 hH.out.2.1 hH.out.2.2.1 hH.out.2.2.2 rfl (by omega) _ i (pcs (c.take i)) rfl hK3.out.row ⟨bs, 0, none⟩ 1 1 [.string nm, .string tx] rfl rfl (pair_cells hb3.out) (pair_one _ _) (by unfold maxLen; omega) (by omega) ?_; intro v4 w4 hp4; have hK4 := Box.mk (hK3.out.new hp4); clear hp4))
        have d3 : w4.cell? ⟨g, i * 2, none⟩ = some (.string n1) := by rw [hK4.out.k.cell (p := ⟨g, _, none⟩) hg]; exact hr.out.cells (i * 2) _ (hn1 ▸ p1)
        have b3 : w4.cell? ⟨bp, 0, none⟩ = some (.string nm) := hK4.out.blk.cell 0
        have hNq : N ≤ q := by
          obtain ⟨_, ⟨e0, e1⟩ | ⟨g2, cap, cur, e0, z1, z2, z3, z4, z5, z6⟩⟩ := hr.out
          · cases e0
          · cases e0; omega
        clear hx hK3 hb3
        by_cases hq : n1 = nm
        · have hce : (c[i]).1 = nm.data.toList := by rw [← hq, ← hn1]; rfl
          have hm := Box.mk (by have := hmid.out; rw [if_pos hce] at this; exact this)
          have hqe : (n1.toList == nm.toList) = true := by rw [hq]; exact beq_self_eq_true _
          clear hmid hbl
          go_wp2_with fail
          refine wp_region_quiet_lit (by kernel_rfl) (by kernel_rfl) ?_
          repeat (go_big_quiet_step (first | exact fun _ => rfl | rfl))
          refine wpQuiet_nil ?_
          rintro w5 ⟨r, rfl⟩
          have hK5 := Box.mk (hK4.out.keep (below_drewN _ w4 r))
          generalize w4.drewN r = w5 at hK5 ⊢
          by_cases hqi : q = i + 1
          · subst hqi
            obtain rfl : N = i + 1 := by omega
            have hd0 : c.drop (i + 1) = [] := List.drop_eq_nil_of_le (by rw [hN.out]; exact Nat.le_refl _)
            rw [hd0] at hm
            clear hK4 d3 b3
            go_wp2_with (refine wpList_pushR rfl (.tmp 50) (.tmp 53) 34 92 rfl iP (.agg #[.string ⟨#[]⟩, .string ⟨#[]⟩]) 2 32 Tryz.underlying34 hH.out.1 hH.out.2.1 hH.out.2.2.1 hH.out.2.2.2 rfl (by omega) _ (i + 1) _ rfl hK5.out.row ⟨g, 0, none⟩ 0 0 (pcs []) rfl rfl (fun j u hu => by simp [pcs] at hu) (pcs_one _) (by unfold maxLen; omega) (by omega) ?_; intro v6 w6 hp6; have hFin := Box.mk (hK5.out.done (by omega) hm.out rfl hp6); clear hp6)
            go_returns
            exact ⟨_, rfl, hFin.out⟩
          · have hnews : Box (∀ j u, (pcs (c.drop (i + 1)))[j]? = some u → w5.cell? ((⟨g, (i + 1) * 2, none⟩ : Addr).add j) = some u) := ⟨fun j u hu => by
              rw [pcs_drop, List.getElem?_drop] at hu
              rw [Addr.add_mid, hK5.out.k.cell (p := ⟨g, _, none⟩) hg]
              exact hr.out.cells _ _ hu⟩
            have hdl : (c.drop (i + 1)).length = N - (i + 1) := by rw [List.length_drop, hN.out]
            have hml : Box ((pcs (c.drop (i + 1))).length = (N - (i + 1)) * 2) := ⟨by rw [pcs_len, hdl]⟩
            have hdl2 := Box.mk hdl
            clear hK4 d3 b3 hdl
            go_wp2_with (refine wpList_pushR rfl (.tmp 50) (.tmp 53) 34 92 rfl iP (.agg #[.string ⟨#[]⟩, .string ⟨#[]⟩]) 2 32 Tryz.underlying34 hH.out.1 hH.out.2.1 hH.out.2.2.1 hH.out.2.2.2 rfl (by omega) _ (i + 1) _ rfl hK5.out.row ⟨g, (i + 1) * 2, none⟩ (N - (i + 1)) (q - (i + 1)) (pcs (c.drop (i + 1))) rfl hml.out hnews.out (pcs_one _) (by unfold maxLen; omega) (by omega) ?_; intro v6 w6 hp6; have hFin := Box.mk (hK5.out.done (by omega) hm.out hdl2.out hp6); clear hp6)
            go_returns
            exact ⟨_, rfl, hFin.out⟩
        · have hce : ¬ (c[i]).1 = nm.data.toList := fun h => hq (by rw [← hn1, h]; rfl)
          have hm := Box.mk (by have := hmid.out; rw [if_neg hce] at this; exact this)
          have hqe := toList_ne hq
          clear hmid hbl
          go_wp2_with fail
          refine wp_region_quiet_lit (by kernel_rfl) (by kernel_rfl) ?_
          repeat (go_big_quiet_step (first | exact fun _ => rfl | rfl))
          refine wpQuiet_nil ?_
          rintro w5 ⟨r, rfl⟩
          have hK5 := Box.mk (hK4.out.keep (below_drewN _ w4 r))
          generalize w4.drewN r = w5 at hK5 ⊢
          have hqi : ¬ q = i := by omega
          have hnews : Box (∀ j u, (pcs (c.drop i))[j]? = some u → w5.cell? ((⟨g, i * 2, none⟩ : Addr).add j) = some u) := ⟨fun j u hu => by
            rw [pcs_drop, List.getElem?_drop] at hu
            rw [Addr.add_mid, hK5.out.k.cell (p := ⟨g, _, none⟩) hg]
            exact hr.out.cells _ _ hu⟩
          have hdl : (c.drop i).length = N - i := by rw [List.length_drop, hN.out]
          have hml : Box ((pcs (c.drop i)).length = (N - i) * 2) := ⟨by rw [pcs_len, hdl]⟩
          have hdl2 := Box.mk hdl
          clear hK4 d3 b3 hdl
          go_wp2_with (refine wpList_pushR rfl (.tmp 50) (.tmp 53) 34 92 rfl iP (.agg #[.string ⟨#[]⟩, .string ⟨#[]⟩]) 2 32 Tryz.underlying34 hH.out.1 hH.out.2.1 hH.out.2.2.1 hH.out.2.2.2 rfl (by omega) _ (i + 1) _ rfl hK5.out.row ⟨g, i * 2, none⟩ (N - i) (q - i) (pcs (c.drop i)) rfl hml.out hnews.out (pcs_one _) (by unfold maxLen; omega) (by omega) ?_; intro v6 w6 hp6; have hFin := Box.mk (hK5.out.done (by omega) hm.out hdl2.out hp6); clear hp6)
          go_returns
          exact ⟨_, rfl, hFin.out⟩
    · obtain rfl : i = N := by omega
      have hd : decide ((i : Int) < (i : Int)) = false := decide_eq_false (by omega)
      have hm := Box.mk (putC_end (t := tx.data.toList) (fun j hj h => hS.out j hj (by have := hN.out; omega)))
      have b0 : wr.cell? ⟨bp, 0, none⟩ = some (.string nm) := hK.out.blk.cell 0
      have b1 : wr.cell? ⟨bp, 1, none⟩ = some (.string tx) := hK.out.blk.cell 1
      have hshape : Box ((a = none ∧ i = 0 ∧ q = 0) ∨ ∃ g, a = some ⟨g, 0, none⟩ ∧ i ≤ q) := ⟨by
        obtain ⟨_, ⟨e0, e1⟩ | ⟨g2, cap, cur, e0, z1, z2, z3, z4, z5, z6⟩⟩ := hr.out
        · cases e0; exact .inl ⟨rfl, rfl, rfl⟩
        · cases e0; exact .inr ⟨_, rfl, by omega⟩⟩
      go_wp2_with fail
      refine wp_region_quiet_lit (by kernel_rfl) (by kernel_rfl) ?_
      repeat (go_big_quiet_step (first | exact fun _ => rfl | rfl))
      refine wpQuiet_nil ?_
      rintro w2 ⟨r, rfl⟩
      have hK2 := Box.mk (hK.out.keep (below_drewN _ wr r))
      replace b0 : (wr.drewN r).cell? ⟨bp, 0, none⟩ = some (.string nm) := b0
      replace b1 : (wr.drewN r).cell? ⟨bp, 1, none⟩ = some (.string tx) := b1
      generalize wr.drewN r = w2 at hK2 b0 b1 ⊢
      have hx := Box.mk (pair_range (w := w2) (g := bp) (o := 0) b0 b1)
      obtain ⟨w3, hw3⟩ : ∃ w3, w2.alloc (.cells #[.string nm, .string tx] 92) = w3 := ⟨_, rfl⟩
      have hb3 := Blk.new w2 [.string nm, .string tx] 92
      rw [hw3] at hb3
      have hK3 := Box.mk (hK2.out.keep (hw3 ▸ (Below.refl _ _).alloc (Nat.le_refl _) _ : Below w2.heap.size w2 w3))
      obtain ⟨bs, hbs⟩ : ∃ bs, w2.heap.size = bs := ⟨_, rfl⟩
      rw [hbs] at hb3
      replace hb3 := Box.mk hb3
      clear hK b0 b1 hS hK2
      go_wp2_with (first
          | (refine wpList_load_mid (cs := [.string nm, .string tx]) rfl 92 (.tmp 3) rfl bp 0 rfl _ hx.out Tryz.underlying92 rfl (by kernel_rfl) ?_)
          | (refine wpList_pushR rfl (.tmp 30) (.tmp 32) 34 92 rfl iP (.agg #[.string ⟨#[]⟩, .string ⟨#[]⟩]) 2 32 Tryz.underlying34 hH.out.1 hH.out.2.1 hH.out.2.2.1 hH.out.2.2.2 rfl (by omega) _ i (pcs (c.take i)) rfl hK3.out.row ⟨bs, 0, none⟩ 1 1 [.string nm, .string tx] rfl rfl (pair_cells hb3.out) (pair_one _ _) (by unfold maxLen; omega) (by omega) ?_; intro v4 w4 hp4; have hK4 := Box.mk (hK3.out.new hp4); clear hp4))
      have b3 : w4.cell? ⟨bp, 0, none⟩ = some (.string nm) := hK4.out.blk.cell 0
      clear hx hK3 hb3
      refine wp_region_quiet_lit (by kernel_rfl) (by kernel_rfl) ?_
      repeat (go_big_quiet_step (first | exact fun _ => rfl | rfl))
      refine wpQuiet_nil ?_
      rintro w5 ⟨r, rfl⟩
      have hK5 := Box.mk (hK4.out.keep (below_drewN _ w4 r))
      generalize w4.drewN r = w5 at hK5 ⊢
      clear hK4 b3
      have hfin := Box.mk (hK5.out.same hN.out.symm hm.out)
      have h4 : Box (∃ a4 c4, v4 = .slice a4 (i + 1) c4 ∧ i + 1 ≤ c4) := ⟨by
        obtain ⟨_, ⟨e0, e1⟩ | ⟨g2, cap, cur, e0, z1, z2, z3, z4, z5, z6⟩⟩ := hK5.out.row
        · omega
        · exact ⟨_, _, e0, by omega⟩⟩
      obtain ⟨a4, c4, rfl, hle4⟩ := h4.out
      replace hle4 := Box.mk hle4
      clear h4
      rcases hshape.out with ⟨rfl, rfl, rfl⟩ | ⟨g, rfl, hiq⟩
      · go_wp2_with (refine wpList_pushZ rfl (.tmp 50) (.tmp 53) 34 92 rfl iP Tryz.underlying34 hH.out.1 a4 (0 + 1) c4 hle4.out rfl none 0 rfl ?_)
        go_returns
        exact ⟨_, rfl, hfin.out⟩
      · by_cases hqi : q = i
        · subst hqi
          go_wp2_with (refine wpList_pushZ rfl (.tmp 50) (.tmp 53) 34 92 rfl iP Tryz.underlying34 hH.out.1 a4 (q + 1) c4 hle4.out rfl (some ⟨g, 0, none⟩) 0 rfl ?_)
          go_returns
          exact ⟨_, rfl, hfin.out⟩
        · go_wp2_with (refine wpList_pushZ rfl (.tmp 50) (.tmp 53) 34 92 rfl iP Tryz.underlying34 hH.out.1 a4 (i + 1) c4 hle4.out rfl (some ⟨g, i * 2, none⟩) (q - i) rfl ?_)
          go_returns
          exact ⟨_, rfl, hfin.out⟩
end Go.Proofs.YtoaipjpbioaneaaGreat

namespace Go.Proofs.YtoaipjpbioaneaaGreat
open Go.RowKit Go.Maps

def XLeft (bq : Nat) (x0 x1 x2 vn : Value) (cs : List Value) (c : Ct) (w w' : World) : Prop :=
  ∃ v', Blk w' bq (x0 :: x1 :: x2 :: v' :: cs) 36 ∧ Row w' 92 2 v' c.length (pcs c) ∧ (∀ k, v'.ownBlock = some k → vn.ownBlock = some k ∨ w.heap.size ≤ k) ∧ Chg (fun k => k = bq) w w'
theorem XLeft.same {bq : Nat} {x0 x1 x2 vn : Value} {cs : List Value} {c : Ct} {w : World} (hb : Blk w bq (x0 :: x1 :: x2 :: vn :: cs) 36) (hr : Row w 92 2 vn c.length (pcs c)) : XLeft bq x0 x1 x2 vn cs c w w :=
  ⟨vn, hb, hr, fun _ => .inl, Chg.refl _ _⟩
theorem XLeft.store {bq : Nat} {x0 x1 x2 vn v' : Value} {cs : List Value} {c : Ct} {w w3 : World} (hb : Blk w bq (x0 :: x1 :: x2 :: vn :: cs) 36) (hB : Below w.heap.size w w3) (hr : Row w3 92 2 v' c.length (pcs c)) (hv : ∀ k, v'.ownBlock = some k → k ≠ bq ∧ (vn.ownBlock = some k ∨ w.heap.size ≤ k)) : XLeft bq x0 x1 x2 vn cs c w (w3.setCell ⟨bq, 3, none⟩ v') := by
  have hb3 : Blk w3 bq (x0 :: x1 :: x2 :: vn :: cs) 36 := (hB.block bq hb.lt).trans hb
  refine ⟨v', hb3.setCell 3 v', hr.chg (chg1 w3 bq 3 v') fun k hk => (hv k hk).1, fun k hk => (hv k hk).2, ?_⟩
  exact ((Chg.of_below hB).mono (T := fun k => k = bq) fun i hi hk => by omega).setCell (p := ⟨bq, 3, none⟩) rfl v'
theorem getV_two (c : Ct) (n : Bs) : ∃ tx y, getV c n = .tuple #[.string tx, .bool y] ∧ (y = false ↔ getC c n = none) := by
  refine ⟨_, _, rfl, ?_⟩
  cases getC c n <;> simp
set_option maxHeartbeats 6400000 in
set_option maxRecDepth 100000 in
theorem xPut_any (bq : Nat) (x0 x1 x2 vn : Value) (cs : List Value) (c : Ct) (s t : ByteArray) (w : World) (hb : Blk w bq (x0 :: x1 :: x2 :: vn :: cs) 36) (hr : Row w 92 2 vn c.length (pcs c)) (hl : c.length ≤ 1000) :
    Calls Tryz.prog 31 #[.pointer (some ⟨bq, 0, none⟩), .string s, .string t] w fun e w' => e = .returned (.int .i64 (putE c s.data.toList t.data.toList)) ∧ Box (XLeft bq x0 x1 x2 vn cs (putM c s.data.toList t.data.toList) w w') := by
  have hG := xget_any bq vn c x0 x1 x2 cs s w hb hr (by omega)
  obtain ⟨g, y, hgv, hgn⟩ := getV_two c s.data.toList
  rw [hgv] at hG
  replace hG := Box.mk hG
  have hsl : s.data.toList.length = s.size := data_len s
  have htl : t.data.toList.length = t.size := data_len t
  by_cases h1 : s.size < 1 ∨ 32 < s.size
  · have hE : putE c s.data.toList t.data.toList = 1 := by unfold putE; rw [if_pos (by rw [hsl]; exact h1)]
    have hM : putM c s.data.toList t.data.toList = c := by unfold putM; rw [hE, if_neg (by decide)]
    have hF := Box.mk (XLeft.same hb hr)
    rw [hE, hM]
    clear hE hM hb hr hgv hgn
    by_cases h0 : s = ⟨#[]⟩
    · subst h0
      go_enter Tryz.func31, Tryz.ntmps31
      go_wp2_with fail
      refine hG.out.mono ?_
      rintro e w' ⟨rfl, rfl⟩
      go_wp2_with fail
      go_returns
      exact ⟨rfl, hF⟩
    · have h3 : (32 : Int) < (s.size : Int) := by
        rcases h1 with h1 | h1
        · exact absurd (ByteArray.ext (Array.ext' (List.eq_nil_of_length_eq_zero (by rw [hsl]; omega)))) h0
        · omega
      go_enter Tryz.func31, Tryz.ntmps31
      go_wp2_with fail
      refine hG.out.mono ?_
      rintro e w' ⟨rfl, rfl⟩
      go_wp2_with fail
      all_goals
        go_returns
        exact ⟨rfl, hF⟩
  · have h0 : (s.toList == (⟨#[]⟩ : ByteArray).toList) = false := toList_ne (fun h => h1 (.inl (by rw [h]; exact Nat.zero_lt_one)))
    have h0b : s.toList.isEmpty = false := by
      rw [ByteArray.toList_eq]
      cases hd : s.data.toList with
      | nil => rw [hd] at hsl; simp at hsl; omega
      | cons a b => rfl
    have h3 : ¬ (32 : Int) < (s.size : Int) := by omega
    by_cases h4 : 65535 < t.size
    · have hE : putE c s.data.toList t.data.toList = 4 := by unfold putE; rw [if_neg (by rw [hsl]; exact h1), if_pos (by rw [htl]; exact h4)]
      have hM : putM c s.data.toList t.data.toList = c := by unfold putM; rw [hE, if_neg (by decide)]
      have hF := Box.mk (XLeft.same hb hr)
      rw [hE, hM]
      clear hE hM hb hr hgv hgn
      go_enter Tryz.func31, Tryz.ntmps31
      go_wp2_with fail
      refine hG.out.mono ?_
      rintro e w' ⟨rfl, rfl⟩
      go_wp2_with fail
      go_returns
      exact ⟨rfl, hF⟩
    · obtain ⟨a, q, rfl⟩ := hr.shape
      have c3 : w.cell? ⟨bq, 3, none⟩ = some (.slice a c.length q) := hb.cell 3
      by_cases h5 : getC c s.data.toList = none ∧ 64 ≤ c.length
      · have hE : putE c s.data.toList t.data.toList = 6 := by unfold putE; rw [if_neg (by rw [hsl]; exact h1), if_neg (by rw [htl]; exact h4), if_pos h5]
        have hM : putM c s.data.toList t.data.toList = c := by unfold putM; rw [hE, if_neg (by decide)]
        have hF := Box.mk (XLeft.same hb hr)
        rw [hE, hM]
        obtain rfl := hgn.2 h5.1
        have h6 := h5.2
        have hF2 : Box (XLeft bq x0 x1 x2 (.slice a c.length q) cs c w w) := hF
        generalize c.length = n at *
        clear hE hM hb hr hgv hgn h5 hF
        go_enter Tryz.func31, Tryz.ntmps31
        go_wp2_with fail
        refine hG.out.mono ?_
        rintro e w' ⟨rfl, rfl⟩
        go_wp2_with fail
        go_returns
        exact ⟨rfl, hF2⟩
      · have hE : putE c s.data.toList t.data.toList = 0 := by unfold putE; rw [if_neg (by rw [hsl]; exact h1), if_neg (by rw [htl]; exact h4), if_neg h5]
        have hM : putM c s.data.toList t.data.toList = putC c s.data.toList t.data.toList := by unfold putM; rw [if_pos hE]
        rw [hE, hM]
        have hP := Box.mk (xput_any (.slice a c.length q) c s t w hr hl)
        have h6 : y = true ∨ c.length < 64 := by
          cases y with
          | true => exact .inl rfl
          | false => exact .inr (by have := hgn.1 rfl; rw [this] at h5; simp at h5; exact h5)
        replace hb := Box.mk hb
        generalize c.length = n at *
        clear hE hM hr hgv hgn h5
        unfold Put04 at hP
        rcases h6 with rfl | h6
        · skip
          go_enter Tryz.func31, Tryz.ntmps31
          go_wp2_with fail
          refine hG.out.mono ?_
          rintro e w' ⟨rfl, rfl⟩
          go_wp2_with fail
          refine hP.out.mono ?_
          rintro e w3 ⟨v3, rfl, hr3, ho3, hB3⟩
          have hF := Box.mk (XLeft.store hb.out hB3 (c := putC c s.data.toList t.data.toList) hr3 fun k hk => ⟨by have := ho3 k hk; have := hb.out.lt; omega, .inr (ho3 k hk)⟩)
          have hb3 : Blk w3 bq _ 36 := (hB3.block bq hb.out.lt).trans hb.out
          have d3 : w3.cell? ⟨bq, 3, none⟩ = some (.slice a n q) := hb3.cell 3
          have f3 := hb3.free 3
          obtain ⟨a3, q3, rfl⟩ := hr3.shape
          clear hG hP hr3 ho3 hB3 hb3 hb
          go_wp2_with fail
          go_returns
          exact ⟨rfl, hF⟩
        · cases y
          all_goals skip
          · skip
            go_enter Tryz.func31, Tryz.ntmps31
            go_wp2_with fail
            refine hG.out.mono ?_
            rintro e w' ⟨rfl, rfl⟩
            go_wp2_with fail
            refine hP.out.mono ?_
            rintro e w3 ⟨v3, rfl, hr3, ho3, hB3⟩
            have hF := Box.mk (XLeft.store hb.out hB3 (c := putC c s.data.toList t.data.toList) hr3 fun k hk => ⟨by have := ho3 k hk; have := hb.out.lt; omega, .inr (ho3 k hk)⟩)
            have hb3 : Blk w3 bq _ 36 := (hB3.block bq hb.out.lt).trans hb.out
            have d3 : w3.cell? ⟨bq, 3, none⟩ = some (.slice a n q) := hb3.cell 3
            have f3 := hb3.free 3
            obtain ⟨a3, q3, rfl⟩ := hr3.shape
            clear hG hP hr3 ho3 hB3 hb3 hb
            go_wp2_with fail
            go_returns
            exact ⟨rfl, hF⟩
          · skip
            go_enter Tryz.func31, Tryz.ntmps31
            go_wp2_with fail
            refine hG.out.mono ?_
            rintro e w' ⟨rfl, rfl⟩
            go_wp2_with fail
            refine hP.out.mono ?_
            rintro e w3 ⟨v3, rfl, hr3, ho3, hB3⟩
            have hF := Box.mk (XLeft.store hb.out hB3 (c := putC c s.data.toList t.data.toList) hr3 fun k hk => ⟨by have := ho3 k hk; have := hb.out.lt; omega, .inr (ho3 k hk)⟩)
            have hb3 : Blk w3 bq _ 36 := (hB3.block bq hb.out.lt).trans hb.out
            have d3 : w3.cell? ⟨bq, 3, none⟩ = some (.slice a n q) := hb3.cell 3
            have f3 := hb3.free 3
            obtain ⟨a3, q3, rfl⟩ := hr3.shape
            clear hG hP hr3 ho3 hB3 hb3 hb
            go_wp2_with fail
            go_returns
            exact ⟨rfl, hF⟩
end Go.Proofs.YtoaipjpbioaneaaGreat

namespace Go.Proofs.YtoaipjpbioaneaaGreat
open Go.RowKit Go.Maps

set_option maxHeartbeats 1600000 in
set_option maxRecDepth 100000 in
theorem xUndo_any (bq : Nat) (x0 x1 x2 vn vw : Value) (cs : List Value) (c : Ct) (w : World) (hb : Blk w bq (x0 :: x1 :: x2 :: vn :: vw :: cs) 36) (hr : Row w 92 2 vw c.length (pcs c)) (hv : ∀ k, vw.ownBlock = some k → k ≠ bq) :
    Calls Tryz.prog 29 #[.pointer (some ⟨bq, 0, none⟩)] w fun e w' => e = .returned (.tuple #[]) ∧ w' = w.setCell ⟨bq, 3, none⟩ vw ∧ Blk w' bq (x0 :: x1 :: x2 :: vw :: vw :: cs) 36 ∧ Row w' 92 2 vw c.length (pcs c) := by
  obtain ⟨a, q, rfl⟩ := hr.shape
  have c4 : w.cell? ⟨bq, 4, none⟩ = some (.slice a c.length q) := hb.cell 4
  have c3 : w.cell? ⟨bq, 3, none⟩ = some vn := hb.cell 3
  have f3 := hb.free 3
  have h1 := Box.mk (hb.setCell 3 (.slice a c.length q))
  have h2 := Box.mk (hr.chg (chg1 w bq 3 (.slice a c.length q)) fun k hk => hv k hk)
  clear hb hr hv
  go_enter Tryz.func29, Tryz.ntmps29
  go_wp2_with fail
  go_returns
  exact ⟨rfl, rfl, h1.out, h2.out⟩
/-- In Drop's loop. -/
structure DL (w : World) (n : Bs) (c : Ct) (i : Nat) (v : Value) (wr : World) : Prop where
  row : Row wr 92 2 v (dropC (c.take i) n).length (pcs (dropC (c.take i) n))
  own : ∀ k, v.ownBlock = some k → w.heap.size ≤ k
  k : Below w.heap.size w wr
theorem DL.keep {w w1 w2 : World} {n : Bs} {i : Nat} {c : Ct} {v : Value} (h : DL w n c i v w1) (hb : Below w1.heap.size w1 w2) : DL w n c i v w2 :=
  ⟨h.row.chg (Chg.of_below hb) fun k hk => by have := h.row.lt k hk; omega, h.own, h.k.trans (hb.mono h.k.size)⟩
theorem drop_keep {c : Ct} {n : Bs} {i : Nat} (hi : i < c.length) (hn : (c[i]).1 ≠ n) : dropC (c.take (i + 1)) n = dropC (c.take i) n ++ [((c[i]).1, (c[i]).2)] := by
  unfold dropC
  rw [List.take_succ_eq_append_getElem hi, List.filter_append]
  simp [hn]
theorem drop_skip {c : Ct} {n : Bs} {i : Nat} (hi : i < c.length) (hn : (c[i]).1 = n) : dropC (c.take (i + 1)) n = dropC (c.take i) n := by
  unfold dropC
  rw [List.take_succ_eq_append_getElem hi, List.filter_append]
  simp [hn]
theorem drop_few (c : Ct) (n : Bs) (i : Nat) : (dropC (c.take i) n).length ≤ c.length := Nat.le_trans (List.length_filter_le _ _) (by rw [List.length_take]; omega)
theorem DL.push {w w3 w4 : World} {n : Bs} {i : Nat} {c : Ct} {v v' : Value} (h : DL w n c i v w3) (hi : i < c.length) (hn : (c[i]).1 ≠ n) (p : PushedRow w3 92 2 v ((dropC (c.take i) n).length + 1) (pcs (dropC (c.take i) n) ++ [.string (btx (c[i]).1), .string (btx (c[i]).2)]) v' w4) : DL w n c (i + 1) v' w4 := by
  have hs := h.k.size
  have hc := p.chg
  refine ⟨?_, fun k hk => ?_, h.k.trans (hc.below hs fun k hk => h.own k hk)⟩
  · rw [drop_keep hi hn, pcs_app, List.length_append]
    exact p.row
  · rcases p.place k hk with hk | hk
    · exact h.own k hk
    · omega
theorem DL.skip {w w3 : World} {n : Bs} {i : Nat} {c : Ct} {v : Value} (h : DL w n c i v w3) (hi : i < c.length) (hn : (c[i]).1 = n) : DL w n c (i + 1) v w3 :=
  ⟨by rw [drop_skip hi hn]; exact h.row, h.own, h.k⟩
set_option maxHeartbeats 6400000 in
set_option maxRecDepth 100000 in
theorem xDrop_any (bq : Nat) (x0 x1 x2 vn : Value) (cs : List Value) (c : Ct) (s : ByteArray) (w : World) (hb : Blk w bq (x0 :: x1 :: x2 :: vn :: cs) 36) (hr : Row w 92 2 vn c.length (pcs c)) (hl : c.length ≤ 1000) :
    Calls Tryz.prog 27 #[.pointer (some ⟨bq, 0, none⟩), .string s] w fun e w' => e = .returned (.bool (getC c s.data.toList).isSome) ∧ Box (XLeft bq x0 x1 x2 vn cs (dropC c s.data.toList) w w') := by
  obtain ⟨a, q, rfl⟩ := hr.shape
  have hD0 : Box (DL w s.data.toList c 0 (.slice none 0 0) w) := ⟨⟨Row.nil _ _ _, fun k hk => by (cases hk), Below.refl _ _⟩⟩
  have hgd : Box (decide ((dropC c s.data.toList).length < c.length) = (getC c s.data.toList).isSome) := ⟨by
    have := dropC_len (c := c) s.data.toList
    cases hg : (getC c s.data.toList).isSome with
    | true => exact decide_eq_true (this.2 hg)
    | false => exact decide_eq_false fun h => by rw [this.1 h] at hg; cases hg⟩
  obtain ⟨iP, hiP, hzP, hsP, hbP⟩ := info_parts infoP
  have hH := Box.mk (And.intro hiP (And.intro hzP (And.intro hsP hbP)))
  obtain ⟨N, hN⟩ : ∃ N, c.length = N := ⟨_, rfl⟩
  rw [hN] at hr hl hb ⊢
  obtain ⟨ans, hans⟩ : ∃ ans, (getC c s.data.toList).isSome = ans := ⟨_, rfl⟩
  rw [hans] at hgd ⊢
  replace hN := Box.mk hN
  replace hr := Box.mk hr
  replace hb := Box.mk hb
  replace hans := Box.mk hans
  clear hiP hzP hsP hbP
  go_enter Tryz.func27, Tryz.ntmps27
  go_wp2_with fail
  go_loopw [6, 5] (fun s6 s5 wr => ∃ i : Nat, i ≤ N ∧ s6 = .int .i64 i ∧ Box (DL w s.data.toList c i s5 wr)) (fun s6 _ _ => N - (intOf s6).toNat)
  case atStart => exact ⟨0, by omega, rfl, hD0⟩
  case round =>
    clear hD0
    obtain ⟨i, hi, rfl, hK⟩ := hrel
    have hbr : Blk wr bq _ 36 := (hK.out.k.block bq hb.out.lt).trans hb.out
    have c3 : wr.cell? ⟨bq, 3, none⟩ = some (.slice a N q) := hbr.cell 3
    by_cases hlt : i < N
    · have hic : i < c.length := by rw [hN.out]; exact hlt
      obtain ⟨g, gc, e0, hg⟩ := hr.out.some (by omega)
      cases e0
      obtain ⟨p1, p2⟩ := pcs_get c i hic
      have d1 := hr.out.cells (i * 2) _ p1
      have d2 := hr.out.cells (i * 2 + 1) _ p2
      rw [← hK.out.k.cell (p := ⟨g, _, none⟩) hg] at d1 d2
      obtain ⟨n1, hn1⟩ : ∃ nm, btx (c[i]).1 = nm := ⟨_, rfl⟩
      obtain ⟨t1, ht1⟩ : ∃ tx, btx (c[i]).2 = tx := ⟨_, rfl⟩
      rw [hn1] at d1
      rw [ht1] at d2
      by_cases hq : n1 = s
      · have hK2 := Box.mk (hK.out.skip hic (by rw [← hq, ← hn1]; rfl))
        subst hq
        clear hK hbr d2
        go_wp2_with fail
        exact ⟨⟨i + 1, by omega, by go_num, hK2⟩, by simp [intOf]; omega⟩
      · have hne : (c[i]).1 ≠ s.data.toList := btx_ne (by rw [hn1]; exact hq)
        have hql := toList_ne hq
        have hx := Box.mk (pair_range (w := wr) d1 d2)
        obtain ⟨w3, hw3⟩ : ∃ w3, wr.alloc (.cells #[.string n1, .string t1] 92) = w3 := ⟨_, rfl⟩
        have hb3 := Blk.new wr [.string n1, .string t1] 92
        rw [hw3] at hb3
        have hK3 := Box.mk (hK.out.keep (hw3 ▸ (Below.refl _ _).alloc (Nat.le_refl _) _ : Below wr.heap.size wr w3))
        obtain ⟨bs, hbs⟩ : ∃ bs, wr.heap.size = bs := ⟨_, rfl⟩
        rw [hbs] at hb3
        replace hb3 := Box.mk hb3
        have hfew := drop_few c s.data.toList i
        rw [hN.out] at hfew
        clear hK hbr d2
        go_wp2_with (first
          | (refine wpList_load_mid (cs := [.string n1, .string t1]) rfl 92 (.tmp 33) rfl g (i * 2) rfl _ hx.out Tryz.underlying92 rfl (by kernel_rfl) ?_)
          | (refine wpList_pushR rfl (.tmp 27) (.tmp 35) 34 92 rfl iP (.agg #[.string ⟨#[]⟩, .string ⟨#[]⟩]) 2 32 Tryz.underlying34 hH.out.1 hH.out.2.1 hH.out.2.2.1 hH.out.2.2.2 rfl (by omega) _ (dropC (c.take i) s.data.toList).length (pcs (dropC (c.take i) s.data.toList)) rfl hK3.out.row ⟨bs, 0, none⟩ 1 1 [.string n1, .string t1] rfl rfl (pair_cells hb3.out) (pair_one _ _) (by unfold maxLen; omega) (by omega) ?_; intro v4 w4 hp4; have hK4 := Box.mk (hK3.out.push hic hne (by rw [hn1, ht1]; exact hp4)); clear hp4))
        exact ⟨⟨i + 1, by omega, by go_num, hK4⟩, by simp [intOf]; omega⟩
    · obtain rfl : i = N := by omega
      have hrow := hK.out.row
      have htk : c.take i = c := List.take_of_length_le (by rw [hN.out]; exact Nat.le_refl _)
      rw [htk] at hrow
      have hown := hK.out.own
      have hB := hK.out.k
      obtain ⟨m, hm⟩ : ∃ m, (dropC c s.data.toList).length = m := ⟨_, rfl⟩
      have hF := Box.mk (XLeft.store hb.out hB hrow fun k hk => ⟨by have := hown k hk; have := hb.out.lt; omega, .inr (hown k hk)⟩)
      have hgd2 : Box (decide (m < i) = ans) := ⟨by rw [← hgd.out, hm, hN.out]⟩
      obtain ⟨a5, q5, rfl⟩ := hrow.shape
      rw [hm] at hF hrow ⊢
      have f3 := hbr.free 3
      clear hK hrow hown hB hbr htk
      go_wp2_with fail
      go_returns
      exact ⟨by show Ending.returned (.bool (decide (m < i))) = _; rw [hgd2.out], hF⟩
end Go.Proofs.YtoaipjpbioaneaaGreat

namespace Go.Proofs.YtoaipjpbioaneaaGreat
open Go.RowKit Go.Maps

/-- The document's writer in block b, all of it new since w0. -/
structure XH (w0 : World) (b : Nat) (l : Bs) (w : World) : Prop where
  out : ∃ v, WAt w b 108 v l false ∧ ∀ k, v.ownBlock = some k → w0.heap.size ≤ k
  k : Below w0.heap.size w0 w
  b : w0.heap.size ≤ b
theorem XH.next {w0 w w' : World} {b : Nat} {l l' : Bs} {v : Value} (h : XH w0 b l w) (hb : ∀ k, v.ownBlock = some k → w0.heap.size ≤ k) (hN : WNext w b 108 v l' false w') : XH w0 b l' w' := by
  obtain ⟨v', h1, h2, h3⟩ := hN.out
  refine ⟨⟨v', h1, fun k hk => ?_⟩, h.k.trans (h2.below h.k.size ?_), h.b⟩
  · rcases h3 k hk with h4 | h4
    · exact hb k h4
    · exact Nat.le_trans h.k.size h4
  · rintro i (rfl | hi)
    · exact h.b
    · exact hb i hi
theorem XH.new (w : World) : XH w w.heap.size [] (w.alloc (.cells #[.slice none 0 0, .bool false] 108)) :=
  ⟨⟨.slice none 0 0, ⟨Blk.new w _ _, Own.nil _⟩, fun k hk => by cases hk⟩, (Below.refl _ _).alloc (Nat.le_refl _) _, Nat.le_refl _⟩
theorem XH.num {w0 w : World} {b : Nat} {l : Bs} (h : XH w0 b l w) (n k : Nat) (hk : k = 1 ∨ k = 2 ∨ k = 4 ∨ k = 8) (hn : n ≤ 9223372036854775807) (hf : n < 256 ^ k) (hl : l.length ≤ 35184372088832) :
    Calls Tryz.prog 53 #[.pointer (some ⟨b, 0, none⟩), .int .i64 (n : Int), .int .i64 (k : Int)] w fun e w' => e = .returned (.tuple #[]) ∧ Box (XH w0 b (l ++ beN n k) w') := by
  obtain ⟨v, hv, hb⟩ := h.out
  have h1 := xnum_any b v l false (n : Int) k w hk (by omega) hv hl
  rw [fits_nat n k hf] at h1
  exact h1.mono fun e w' ⟨a, c⟩ => ⟨a, ⟨h.next hb (by simpa [laysX] using c)⟩⟩
theorem XH.text {w0 w : World} {b : Nat} {l : Bs} (h : XH w0 b l w) (s : ByteArray) (hs : s.size ≤ 65535) (hl : l.length ≤ 35184372088000) :
    Calls Tryz.prog 75 #[.pointer (some ⟨b, 0, none⟩), .string s] w fun e w' => e = .returned (.tuple #[]) ∧ Box (XH w0 b (l ++ txL s.data.toList) w') := by
  obtain ⟨v, hv, hb⟩ := h.out
  have h1 := xtext_lay b v l false s w hv hl
  have hd : decide (s.size ≤ 65535) = true := by simpa using hs
  rw [hd, txL_eq] at h1
  exact h1.mono fun e w' ⟨a, c⟩ => ⟨a, ⟨h.next hb (by simpa [laysX] using c)⟩⟩
set_option maxHeartbeats 3200000 in
set_option maxRecDepth 100000 in
theorem xBytes_any (v0 : Value) (c : Ct) (w : World) (hr : Row w 92 2 v0 c.length (pcs c)) (hc : c.ok) :
    Calls Tryz.prog 51 #[v0] w fun e w' => e = .returned (.string (btx (bytesC c))) ∧ Box (Below w.heap.size w w') := by
  obtain ⟨a, q, rfl⟩ := hr.shape
  have hcn := hc.n
  have h0 := Box.mk (XH.new w)
  obtain ⟨w1, hw1⟩ : ∃ w1, w.alloc (.cells #[.slice none 0 0, .bool false] 108) = w1 := ⟨_, rfl⟩
  obtain ⟨b, hb⟩ : ∃ b, w.heap.size = b := ⟨_, rfl⟩
  rw [hw1, hb] at h0
  obtain ⟨N, hN⟩ : ∃ N, c.length = N := ⟨_, rfl⟩
  rw [hN] at hr hcn ⊢
  have h1 : Box (Calls Tryz.prog 53 #[.pointer (some ⟨b, 0, none⟩), .int .i64 (N : Int), .int .i64 2] w1 fun e w' => e = .returned (.tuple #[]) ∧ Box (XH w b ([] ++ beN N 2) w')) := ⟨h0.out.num N 2 (by omega) (by omega) (by omega) (by simp)⟩
  replace hr := Box.mk hr
  replace hc := Box.mk hc
  replace hN := Box.mk hN
  go_enter Tryz.func51, Tryz.ntmps51
  go_wp2_with fail
  refine h1.out.mono ?_
  rintro e w2 ⟨rfl, h2⟩
  clear h0 h1 hw1
  go_wp2_with fail
  go_loopw [4] (fun s4 wr => ∃ i : Nat, i ≤ N ∧ s4 = .int .i64 i ∧ Box (XH w b (beN N 2 ++ (c.take i).flatMap pairL) wr)) (fun s4 _ => N - (intOf s4).toNat)
  case atStart => exact ⟨0, by omega, rfl, ⟨by simpa using h2.out⟩⟩
  case round =>
    clear h2
    obtain ⟨i, hi, rfl, h5⟩ := hrel
    by_cases hlt : i < N
    · have hic : i < c.length := by rw [hN.out]; exact hlt
      obtain ⟨g, gc, e0, hg⟩ := hr.out.some (by omega)
      cases e0
      obtain ⟨p1, p2⟩ := pcs_get c i hic
      have d1 := hr.out.cells (i * 2) _ p1
      have d2 := hr.out.cells (i * 2 + 1) _ p2
      obtain ⟨p, hp⟩ : ∃ p, c[i] = p := ⟨_, rfl⟩
      rw [hp] at d1 d2
      have hpm : p ∈ c := hp ▸ List.getElem_mem hic
      have hpe := hc.out.each p hpm
      have hll := pairL_len c hc.out i
      have h6 := Box.mk (h5.out.text (btx p.1) (by rw [mk_size]; omega) (by rw [List.length_append, beN_length]; omega))
      have d1r : wr.cell? ⟨g, i * 2, none⟩ = some (.string (btx p.1)) := by rw [h5.out.k.cell (p := ⟨g, _, none⟩) hg]; exact d1
      replace hp := Box.mk hp
      replace d2 := Box.mk d2
      clear p1 p2 d1
      go_wp2_with fail
      refine h6.out.mono ?_
      rintro e w6 ⟨rfl, h7⟩
      have d2r : w6.cell? ⟨g, i * 2 + 1, none⟩ = some (.string (btx p.2)) := by rw [h7.out.k.cell (p := ⟨g, _, none⟩) hg]; exact d2.out
      have h8 := Box.mk (h7.out.text (btx p.2) (by rw [mk_size]; omega) (by rw [List.length_append, List.length_append, beN_length]; show _ + (txL p.1).length ≤ _; rw [txL_length]; omega))
      clear h6 h5 d1r
      go_wp2_with fail
      refine h8.out.mono ?_
      rintro e w8 ⟨rfl, h9⟩
      have h10 : Box (XH w b (beN N 2 ++ (c.take (i + 1)).flatMap pairL) w8) := ⟨by
        rw [flat_snoc c i hic, hp.out, ← List.append_assoc, ← List.append_assoc]; exact h9.out⟩
      clear h7 h8 h9 hpe hll hp hpm d2 d2r
      go_wp2_with fail
      exact ⟨⟨i + 1, by omega, by go_num, h10⟩, by simp [intOf]; omega⟩
    · obtain rfl : i = N := by omega
      rw [List.take_of_length_le (by rw [hN.out]; exact Nat.le_refl _)] at h5
      have e : beN i 2 ++ c.flatMap pairL = bytesC c := by unfold bytesC; rw [hN.out]
      rw [e] at h5
      obtain ⟨v, hv, _⟩ := h5.out.out
      have k0 : wr.cell? ⟨b, 0, none⟩ = some v := hv.blk.cell 0
      have hcv : (convert 84 9 v).run Tryz.prog wr = .ok (.string (btx (bytesC c))) wr := own_text hv.own
      have hB : Box (Below w.heap.size w wr) := ⟨h5.out.k⟩
      clear h5 e hv
      go_wp2_with fail
      go_returns
      exact ⟨rfl, hB⟩
end Go.Proofs.YtoaipjpbioaneaaGreat

namespace Go.Proofs.YtoaipjpbioaneaaGreat
open Go.RowKit Go.Maps

def wrE (D : Dev) (n : Nat) (t : Bs) (last : Bool) : Int := if D.writeE n t = 0 ∧ last = true then (D.write n t).barrierE else D.writeE n t
def wrD (D : Dev) (n : Nat) (t : Bs) (last : Bool) : Dev := if D.writeE n t = 0 ∧ last = true then (D.write n t).barrier else D.write n t
theorem QNext.trans {w w1 w2 : World} {bw : Nat} {F : Nat → Prop} {D1 D2 : Dev} (h1 : QNext w bw F D1 w1) (h2 : QNext w1 bw (fun k => F k ∨ (w.heap.size ≤ k ∧ k < w1.heap.size)) D2 w2) : QNext w bw F D2 w2 := by
  have s1 := h1.chg.size
  have s2 := h2.chg.size
  have hl := h1.at_.lt
  refine ⟨h2.at_.wide (fun k hk => ?_) (fun k hk => ?_), h1.chg.trans h2.chg (fun i hi hk => ?_)⟩
  · rcases hk with (hk | hk) | hk
    · exact .inl hk
    · exact .inr ⟨hk.1, Nat.lt_of_lt_of_le hk.2 s2⟩
    · exact .inr ⟨Nat.le_trans s1 hk.1, hk.2⟩
  · rcases hk with hk | hk
    · have := hl k (.inl hk); omega
    · exact hk.2
  · rcases hk with hk | hk
    · exact hk
    · omega
theorem write_len (D : Dev) (n : Int) (t : Bs) : (D.write n t).safe.length = D.safe.length := by
  unfold Dev.write
  split
  · rfl
  · split
    · rfl
    · split
      · show D.stepD.safe.length = _; rw [Dev.step_safe]
      · rw [Dev.step_safe]
theorem write_few (D : Dev) (n : Int) (t : Bs) : (D.write n t).taken ≤ D.taken + 1 ∧ (D.write n t).fall ≤ D.fall ∧ (D.write n t).ws.length ≤ D.ws.length + 1 := by
  have hs : D.stepD.taken ≤ D.taken + 1 ∧ D.stepD.fall ≤ D.fall ∧ D.stepD.ws = D.ws := by
    refine ⟨?_, ?_, Dev.step_ws D⟩
    · unfold Dev.stepD; split
      · exact Nat.le_succ _
      · exact Nat.le_refl _
    · unfold Dev.stepD; split
      · exact Nat.zero_le _
      · exact Nat.sub_le _ _
  unfold Dev.write
  split
  · omega
  · split
    · omega
    · split
      · refine ⟨hs.1, hs.2.1, ?_⟩
        show (D.ws ++ [_]).length ≤ _
        rw [List.length_append]; exact Nat.le_refl _
      · rw [hs.2.2]; omega
set_option maxHeartbeats 3200000 in
set_option maxRecDepth 100000 in
theorem xwrite_any (bq bw : Nat) (F : Nat → Prop) (D : Dev) (n : Nat) (t : ByteArray) (last : Bool) (cs : List Value) (w : World) (h : QAt w bw F D) (hb : Blk w bq (.pointer (some ⟨bw, 0, none⟩) :: cs) 36) (hF : ¬ F bq)
    (h0 : 0 < D.safe.length) (hk : D.taken ≤ 900000) (hf : D.fall ≤ 9223372036854775807) (hws : D.ws.length ≤ 900000) :
    Calls Tryz.prog 52 #[.pointer (some ⟨bq, 0, none⟩), .int .i64 (n : Int), .string t, .bool last] w fun e w' => e = .returned (.int .i64 (wrE D n t.data.toList last)) ∧ Box (QNext w bw F (wrD D n t.data.toList last) w') := by
  have hW := Box.mk (qwrite_any bw F D (n : Int) t w h (by omega) hf (by omega))
  have c0 : w.cell? ⟨bq, 0, none⟩ = some (.pointer (some ⟨bw, 0, none⟩)) := hb.cell 0
  obtain ⟨m1, m2, m3⟩ := write_few D (n : Int) t.data.toList
  have m4 := write_len D (n : Int) t.data.toList
  unfold wrE wrD
  obtain ⟨e1, he1⟩ : ∃ e1, D.writeE (n : Int) t.data.toList = e1 := ⟨_, rfl⟩
  obtain ⟨D1, hD1⟩ : ∃ D1, D.write (n : Int) t.data.toList = D1 := ⟨_, rfl⟩
  rw [he1, hD1] at hW ⊢
  rw [hD1] at m1 m2 m3 m4
  replace hb := Box.mk hb
  replace hF := Box.mk hF
  clear h he1 hD1
  by_cases hl : e1 = 0 ∧ last = true
  · rw [if_pos hl, if_pos hl]
    obtain ⟨rfl, rfl⟩ := hl
    go_enter Tryz.func52, Tryz.ntmps52
    go_wp2_with fail
    refine hW.out.mono ?_
    rintro e w1 ⟨rfl, hN⟩
    have hb1 := hN.chg.blk hb.out hF.out
    have c1 : w1.cell? ⟨bq, 0, none⟩ = some (.pointer (some ⟨bw, 0, none⟩)) := hb1.cell 0
    have hBr := Box.mk (qbarrier_any bw _ D1 w1 hN.at_ (by omega) (by omega) (by omega) (by omega))
    replace hN := Box.mk hN
    clear hW c0 hb1
    go_wp2_with fail
    refine hBr.out.mono ?_
    rintro e w2 ⟨rfl, hN2⟩
    have hF2 := Box.mk (hN.out.trans hN2)
    clear hBr hN hN2 c1
    go_wp2_with fail
    go_returns
    exact ⟨rfl, hF2⟩
  · rw [if_neg hl, if_neg hl]
    have hd : ¬ e1 = 0 ∨ last = false := by
      by_cases h1 : e1 = 0
      · cases last with
        | true => exact absurd ⟨h1, rfl⟩ hl
        | false => exact .inr rfl
      · exact .inl h1
    clear hl
    rcases hd with hd | rfl
    · go_enter Tryz.func52, Tryz.ntmps52
      go_wp2_with fail
      refine hW.out.mono ?_
      rintro e w1 ⟨rfl, hN⟩
      replace hN := Box.mk hN
      have hd2 : (e1 == 0) = false := by simpa using hd
      clear hW c0
      go_wp2_with fail
      go_returns
      exact ⟨rfl, hN⟩
    · by_cases h1 : e1 = 0
      · subst h1
        go_enter Tryz.func52, Tryz.ntmps52
        go_wp2_with fail
        refine hW.out.mono ?_
        rintro e w1 ⟨rfl, hN⟩
        replace hN := Box.mk hN
        clear hW c0
        go_wp2_with fail
        go_returns
        exact ⟨rfl, hN⟩
      · have hd2 : (e1 == 0) = false := by simpa using h1
        go_enter Tryz.func52, Tryz.ntmps52
        go_wp2_with fail
        refine hW.out.mono ?_
        rintro e w1 ⟨rfl, hN⟩
        replace hN := Box.mk hN
        clear hW c0
        go_wp2_with fail
        go_returns
        exact ⟨rfl, hN⟩
end Go.Proofs.YtoaipjpbioaneaaGreat

namespace Go.Proofs.YtoaipjpbioaneaaGreat
open Go.RowKit Go.Maps

theorem XelO.left {bw bq base half : Nat} {M : CellM} {c : Ct} {w w' : World} {F : Nat → Prop} {vn vw : Value} (hok : CellM.ok { M with now := c } base half) (hw : Row w 92 2 vw M.was.length (pcs M.was)) (hF1 : ∀ k, vn.ownBlock = some k → F k) (hF2 : ∀ k, vw.ownBlock = some k → F k) (hfc : F bq) (hlt : ∀ k, F k → k < w.heap.size) (hne : vw.ownBlock ≠ some bq)
    (h : XLeft bq (.pointer (some ⟨bw, 0, none⟩)) (.int .i64 (base : Int)) (.int .i64 (half : Int)) vn [vw, .int .i64 (M.num : Int), .int .i64 (M.last : Int), .bool M.off] c w w') : XelO bw bq base half { M with now := c } w' (Ext F w w') ∧ Chg F w w' := by
  obtain ⟨v', hb, hr, hv, hc⟩ := h
  have hs := hc.size
  refine ⟨⟨hok, ⟨v', vw, hb, hr, hw.chg hc fun k hk e => hne (e ▸ hk), fun k hk => ?_, fun k hk => .inl (hF2 k hk)⟩, .inl hfc, fun k hk => ?_⟩, hc.mono fun i _ hi => hi ▸ hfc⟩
  · rcases hv k hk with h1 | h1
    · exact .inl (hF1 k h1)
    · exact .inr ⟨h1, hr.lt k hk⟩
  · rcases hk with hk | hk
    · exact Nat.lt_of_lt_of_le (hlt k hk) hs
    · exact hk.2
theorem xput_does (bw bq base half : Nat) (M : CellM) (s t : ByteArray) :
    Does 31 #[.pointer (some ⟨bq, 0, none⟩), .string s, .string t] (XelO bw bq base half M) (RetE (.int .i64 (putE M.now s.data.toList t.data.toList)) (XelO bw bq base half { M with now := putM M.now s.data.toList t.data.toList })) := by
  intro w F h
  obtain ⟨vn, vw, hb, hn, hw, h1, h2⟩ := h.out
  have ho := h.ok
  refine (xPut_any bq _ _ _ vn _ M.now s t w hb hn (by have := ho.now.n; omega)).mono fun e w' ⟨he, hL⟩ => ?_
  have := XelO.left (c := putM M.now s.data.toList t.data.toList) ⟨ho.now.put _ _, ho.was, ho.num, ho.last, ho.base, ho.half⟩ hw h1 h2 h.fc h.lt (hw.apart hb (by decide)) hL.out
  exact ⟨⟨he, this.1⟩, this.2⟩
theorem xdrop_does (bw bq base half : Nat) (M : CellM) (s : ByteArray) :
    Does 27 #[.pointer (some ⟨bq, 0, none⟩), .string s] (XelO bw bq base half M) (RetE (.bool (getC M.now s.data.toList).isSome) (XelO bw bq base half { M with now := dropC M.now s.data.toList })) := by
  intro w F h
  obtain ⟨vn, vw, hb, hn, hw, h1, h2⟩ := h.out
  have ho := h.ok
  refine (xDrop_any bq _ _ _ vn _ M.now s w hb hn (by have := ho.now.n; omega)).mono fun e w' ⟨he, hL⟩ => ?_
  have := XelO.left (c := dropC M.now s.data.toList) ⟨ho.now.drop _, ho.was, ho.num, ho.last, ho.base, ho.half⟩ hw h1 h2 h.fc h.lt (hw.apart hb (by decide)) hL.out
  exact ⟨⟨he, this.1⟩, this.2⟩
theorem xget_does (bw bq base half : Nat) (M : CellM) (s : ByteArray) :
    Does 54 #[.pointer (some ⟨bq, 0, none⟩), .string s] (XelO bw bq base half M) (RetE (getV M.now s.data.toList) (XelO bw bq base half M)) := by
  intro w F h
  obtain ⟨vn, vw, hb, hn, hw, h1, h2⟩ := h.out
  refine (xget_any bq vn M.now _ _ _ _ s w hb hn (by have := h.ok.now.n; omega)).mono fun e w' ⟨he, hB⟩ => ⟨he ▸ RetE.same (XelO.good _ _ _ _ _) h (hB ▸ Below.refl _ _)⟩
theorem xundo_does (bw bq base half : Nat) (M : CellM) :
    Does 29 #[.pointer (some ⟨bq, 0, none⟩)] (XelO bw bq base half M) (RetE (.tuple #[]) (XelO bw bq base half { M with now := M.was })) := by
  intro w F h
  obtain ⟨vn, vw, hb, hn, hw, h1, h2⟩ := h.out
  have ho := h.ok
  have hne := hw.apart hb (by decide)
  refine (xUndo_any bq _ _ _ vn vw _ M.was w hb hw (fun k hk e => hne (e ▸ hk))).mono fun e w' ⟨he, hw', hb', hr'⟩ => ?_
  have hc : Chg (fun k => k = bq) w w' := hw' ▸ chg1 w bq 3 vw
  have hs := hc.size
  refine ⟨⟨he, ⟨⟨ho.was, ho.was, ho.num, ho.last, ho.base, ho.half⟩, ⟨vw, vw, hb', hr', hr', fun k hk => .inl (h2 k hk), fun k hk => .inl (h2 k hk)⟩, .inl h.fc, fun k hk => ?_⟩⟩, hc.mono fun i _ hi => hi ▸ h.fc⟩
  rcases hk with hk | hk
  · exact Nat.lt_of_lt_of_le (h.lt k hk) hs
  · exact hk.2
end Go.Proofs.YtoaipjpbioaneaaGreat

namespace Go.Proofs.YtoaipjpbioaneaaGreat
open Go.RowKit Go.Maps

/-- Where the loop stands: j pieces are written, or it has ended with e. -/
def MidE (D : Dev) (t : Bs) (a j : Nat) (e : Int) (D' : Dev) : Prop :=
  (e = 0 ∧ 64 * j < t.length ∧ layM (cut (t.length - j) (t.drop (64 * j))) D' (a + j) = layM (cut t.length t) D a) ∨ ((t.length ≤ 64 * j ∨ e ≠ 0) ∧ layM (cut t.length t) D a = (e, D'))
structure XMid (D : Dev) (t : Bs) (a j : Nat) (e : Int) (D' : Dev) : Prop where
  len : D'.safe.length = D.safe.length
  taken : D'.taken ≤ D.taken + 2 * j
  fall : D'.fall ≤ D.fall
  ws : D'.ws.length ≤ D.ws.length + j
  mid : MidE D t a j e D'
theorem barrier_few (D : Dev) : D.barrier.taken ≤ D.taken + 1 ∧ D.barrier.fall ≤ D.fall ∧ D.barrier.ws.length ≤ D.ws.length ∧ D.barrier.safe.length = D.safe.length := by
  have hl : D.seen.length = D.safe.length := Dev.ok.seen_len
  unfold Dev.barrier Dev.stepD
  repeat' split
  all_goals first
    | exact ⟨Nat.le_succ _, Nat.le_refl _, Nat.le_refl _, rfl⟩
    | exact ⟨Nat.le_succ _, Nat.sub_le _ _, Nat.zero_le _, hl⟩
    | exact ⟨Nat.le_succ _, Nat.zero_le _, Nat.le_refl _, rfl⟩
    | exact ⟨Nat.le_succ _, Nat.zero_le _, Nat.zero_le _, hl⟩
    | (simp; done)
    | (simp; omega)
theorem wrD_few (D : Dev) (n : Nat) (t : Bs) (last : Bool) : (wrD D n t last).taken ≤ D.taken + 2 ∧ (wrD D n t last).fall ≤ D.fall ∧ (wrD D n t last).ws.length ≤ D.ws.length + 1 ∧ (wrD D n t last).safe.length = D.safe.length := by
  obtain ⟨h1, h2, h3⟩ := write_few D (n : Int) t
  have h4 := write_len D (n : Int) t
  obtain ⟨b1, b2, b3, b4⟩ := barrier_few (D.write (n : Int) t)
  unfold wrD
  split
  · exact ⟨by omega, by omega, by omega, by omega⟩
  · exact ⟨by omega, by omega, by omega, h4⟩
theorem XMid.start (D : Dev) (t : Bs) (a : Nat) (ht : 0 < t.length) : XMid D t a 0 0 D :=
  ⟨rfl, Nat.le_refl _, Nat.le_refl _, Nat.le_refl _, .inl ⟨rfl, ht, by simp⟩⟩
theorem XMid.step {D D' : Dev} {t : Bs} {a j : Nat} (h : XMid D t a j 0 D') (hlt : 64 * j < t.length) (last : Bool) (hl : last = decide (t.length ≤ 64 * (j + 1))) :
    XMid D t a (j + 1) (wrE D' (a + j) ((t.drop (64 * j)).take 64) last) (wrD D' (a + j) ((t.drop (64 * j)).take 64) last) := by
  obtain ⟨f1, f2, f3, f4⟩ := wrD_few D' (a + j) ((t.drop (64 * j)).take 64) last
  refine ⟨by rw [f4]; exact h.len, by have := h.taken; omega, Nat.le_trans f2 h.fall, by have := h.ws; omega, ?_⟩
  have hgo : layM (cut (t.length - j) (t.drop (64 * j))) D' (a + j) = layM (cut t.length t) D a := by
    rcases h.mid with h1 | h1
    · exact h1.2.2
    · rcases h1.1 with h2 | h2
      · omega
      · exact absurd rfl h2
  have hne : t.drop (64 * j) ≠ [] := fun e => by
    have := congrArg List.length e
    rw [List.length_drop] at this
    simp at this
    omega
  rw [show t.length - j = (t.length - (j + 1)) + 1 by omega, cut, if_neg hne, layM, List.drop_drop, show 64 * j + 64 = 64 * (j + 1) by omega] at hgo
  unfold wrE wrD
  by_cases hz : D'.writeE ((a + j : Nat) : Int) ((t.drop (64 * j)).take 64) = 0
  · rw [if_pos hz] at hgo
    by_cases hb : t.length ≤ 64 * (j + 1)
    · have hL : last = true := by rw [hl]; exact decide_eq_true hb
      rw [List.drop_of_length_le hb, cut_nil, layM] at hgo
      rw [if_pos ⟨hz, hL⟩, if_pos ⟨hz, hL⟩]
      exact .inr ⟨.inl hb, hgo.symm⟩
    · have hL : last = false := by rw [hl]; exact decide_eq_false hb
      have hn : ¬ (D'.writeE ((a + j : Nat) : Int) ((t.drop (64 * j)).take 64) = 0 ∧ last = true) := by rw [hL]; simp
      rw [if_neg hn, if_neg hn, hz]
      exact .inl ⟨rfl, by omega, by rw [show a + (j + 1) = a + j + 1 by omega]; exact hgo⟩
  · rw [if_neg hz] at hgo
    have hn : ¬ (D'.writeE ((a + j : Nat) : Int) ((t.drop (64 * j)).take 64) = 0 ∧ last = true) := fun h => hz h.1
    rw [if_neg hn, if_neg hn]
    exact .inr ⟨.inr hz, hgo.symm⟩
theorem XMid.done {D D' : Dev} {t : Bs} {a j : Nat} {e : Int} (h : XMid D t a j e D') (hx : t.length ≤ 64 * j ∨ e ≠ 0) : layM (cut t.length t) D a = (e, D') := by
  rcases h.mid with h1 | h1
  · rcases hx with h2 | h2
    · omega
    · exact absurd h1.1 h2
  · exact h1.2
/-- A header: one piece, with its barrier; the empty text is laid as zeros are. -/
theorem lay_one (D : Dev) (a : Nat) (h : Bs) : layM [h] D a = (wrE D a h true, wrD D a h true) := by
  rw [layM]
  unfold wrE wrD
  by_cases hz : D.writeE (a : Int) h = 0
  · rw [if_pos hz, if_pos ⟨hz, rfl⟩, if_pos ⟨hz, rfl⟩, layM]
  · have hn : ¬ (D.writeE (a : Int) h = 0 ∧ true = true) := fun h => hz h.1
    rw [if_neg hz, if_neg hn, if_neg hn]
theorem write_empty (D : Dev) (a : Nat) : D.writeE (a : Int) [] = D.writeE (a : Int) zeros ∧ D.write (a : Int) [] = D.write (a : Int) zeros := by
  have hp : padS [] = padS zeros := by decide +kernel
  constructor
  · unfold Dev.writeE; rfl
  · unfold Dev.write
    rw [hp]
    rfl
theorem lay_empty (D : Dev) (a : Nat) : layM [zeros] D a = (wrE D a [] true, wrD D a [] true) := by
  rw [lay_one]
  unfold wrE wrD
  rw [(write_empty D a).1, (write_empty D a).2]
theorem wrE_07 {D : Dev} {n : Nat} {t : Bs} {last : Bool} (hn : n < D.safe.length) (ht : t.length ≤ 64) : wrE D n t last = 0 ∨ wrE D n t last = 7 := by
  have hr : D.refused (n : Int) = 0 ∨ D.refused (n : Int) = 7 := by
    unfold Dev.refused
    split
    · exact .inr rfl
    · exact .inl (if_neg (by omega))
  have hb : ∀ E : Dev, E.barrierE = 0 ∨ E.barrierE = 7 := fun E => by
    unfold Dev.barrierE
    repeat' split
    all_goals first | exact .inl rfl | exact .inr rfl
  have hw : D.writeE (n : Int) t = 0 ∨ D.writeE (n : Int) t = 7 := by
    unfold Dev.writeE
    rw [if_neg (show ¬ 64 < t.length by omega)]
    rcases hr with h | h
    · rw [h, if_neg (by decide)]
      split
      · exact .inl rfl
      · exact .inr rfl
    · rw [h, if_pos (by decide)]; exact .inr rfl
  unfold wrE
  split
  · exact hb _
  · exact hw
/-- What the loop keeps, in a commit. -/
structure XLoop (D : Dev) (t : Bs) (a j : Nat) (e : Int) (D' : Dev) : Prop where
  e07 : e = 0 ∨ e = 7
  len : D'.safe.length = D.safe.length
  taken : D'.taken ≤ D.taken + 2 + 2 * j
  fall : D'.fall ≤ D.fall
  ws : D'.ws.length ≤ D.ws.length + 1 + j
  mid : (wrE D a [] true = 0 ∧ XMid (wrD D a [] true) t (a + 1) j e D') ∨ (wrE D a [] true ≠ 0 ∧ e = wrE D a [] true ∧ D' = wrD D a [] true)
theorem XLoop.start {D : Dev} {t : Bs} {a : Nat} (ht : 0 < t.length) (ha : a < D.safe.length) : XLoop D t a 0 (wrE D a [] true) (wrD D a [] true) := by
  obtain ⟨f1, f2, f3, f4⟩ := wrD_few D a [] true
  refine ⟨wrE_07 ha (Nat.zero_le _), f4, f1, f2, f3, ?_⟩
  by_cases hz : wrE D a [] true = 0
  · rw [hz]; exact .inl ⟨rfl, XMid.start _ t _ ht⟩
  · exact .inr ⟨hz, rfl, rfl⟩
theorem XLoop.step {D D' : Dev} {t : Bs} {a j : Nat} (h : XLoop D t a j 0 D') (hlt : 64 * j < t.length) (last : Bool) (hl : last = decide (t.length ≤ 64 * (j + 1))) (hin : a + 1 + j < D.safe.length) :
    XLoop D t a (j + 1) (wrE D' (a + 1 + j) ((t.drop (64 * j)).take 64) last) (wrD D' (a + 1 + j) ((t.drop (64 * j)).take 64) last) := by
  obtain ⟨f1, f2, f3, f4⟩ := wrD_few D' (a + 1 + j) ((t.drop (64 * j)).take 64) last
  refine ⟨wrE_07 (by rw [h.len]; exact hin) (by rw [List.length_take]; omega), by rw [f4]; exact h.len, by have := h.taken; omega, Nat.le_trans f2 h.fall, by have := h.ws; omega, .inl ?_⟩
  rcases h.mid with ⟨h1, h2⟩ | ⟨h1, h2, _⟩
  · exact ⟨h1, h2.step hlt last hl⟩
  · exact absurd h2.symm h1
theorem XLoop.done {D D' : Dev} {t : Bs} {a j : Nat} {e : Int} (h : XLoop D t a j e D') (hx : t.length ≤ 64 * j ∨ e ≠ 0) (hd : Bs) :
    commitM D a hd (cut t.length t) = if e = 0 then (wrE D' a hd true, wrD D' a hd true) else (e, D') := by
  unfold commitM
  rw [lay_empty]
  show (if wrE D a [] true = 0 then _ else _) = _
  rcases h.mid with ⟨h1, h2⟩ | ⟨h1, h2, h3⟩
  · rw [if_pos h1]
    have := h2.done hx
    show (if (layM (cut t.length t) (wrD D a [] true) (a + 1)).1 = 0 then layM [hd] (layM (cut t.length t) (wrD D a [] true) (a + 1)).2 a else layM (cut t.length t) (wrD D a [] true) (a + 1)) = _
    rw [this]
    show (if e = 0 then layM [hd] D' a else (e, D')) = _
    rw [lay_one]
  · rw [if_neg h1, if_neg (by rw [h2]; exact h1), h2, h3]
end Go.Proofs.YtoaipjpbioaneaaGreat
