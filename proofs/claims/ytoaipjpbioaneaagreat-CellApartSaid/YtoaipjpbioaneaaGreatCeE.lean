/- The program's cell in memory; its calls without the device: Get, Put, Drop, Names, Number, Undo. -/
import Derived.Test.YtoaipjpbioaneaaGreatCeO
namespace Go.Proofs.YtoaipjpbioaneaaGreat
open Go.RowKit Go.Maps

/-- A cell: what is told, what was committed last, its number, the copy that it went to, whether the power has gone in a Commit. -/
structure CellM where
  now : Ct
  was : Ct
  num : Nat
  last : Nat
  off : Bool
structure CellM.ok (M : CellM) (base half : Nat) : Prop where
  now : M.now.ok
  was : M.was.ok
  num : M.num ≤ 1000000
  last : M.last ≤ 1
  base : base ≤ 4096
  half : 2 ≤ half ∧ half ≤ 4096
def cellCells (bd bn : Nat) (p : Option Nat) (base half : Nat) (M : CellM) : List Value :=
  [.map (some bn), .map p, .int .i64 (M.num : Int), .pointer (some ⟨bd, 0, none⟩), .int .i64 ((base + M.last * half : Nat) : Int), .int .i64 (half : Int), .pointer (some ⟨bd, 0, none⟩), .int .i64 ((base + (1 - M.last) * half : Nat) : Int), .int .i64 (half : Int), .bool M.off]
/-- A cell in block bc, of a region of the device in block bd. -/
structure CelO (bd bc base half : Nat) (M : CellM) (w : World) (F : Nat → Prop) : Prop where
  ok : M.ok base half
  out : ∃ bn p, Blk w bc (cellCells bd bn p base half M) 69 ∧ MapAt w bn M.now ∧ WasAt w p M.was ∧ F bn ∧ (∀ b, p = some b → F b) ∧ p ≠ some bn
  fc : F bc
  lt : ∀ k, F k → k < w.heap.size
theorem CelO.good (bd bc base half : Nat) (M : CellM) : Good (CelO bd bc base half M) where
  lt := fun h => h.lt
  chg := fun h hc hn => by
    obtain ⟨bn, p, h1, h2, h3, h4, h5, h6⟩ := h.out
    exact ⟨h.ok, ⟨bn, p, hc.blk h1 (hn _ h.fc), h2.chg hc (hn _ h4), h3.chg hc fun b hb => hn _ (h5 b hb), h4, h5, h6⟩, h.fc, fun k hk => Nat.lt_of_lt_of_le (h.lt k hk) hc.size⟩
  wide := fun h hG hl => by
    obtain ⟨bn, p, h1, h2, h3, h4, h5, h6⟩ := h.out
    exact ⟨h.ok, ⟨bn, p, h1, h2, h3, hG _ h4, fun b hb => hG _ (h5 b hb), h6⟩, hG _ h.fc, hl⟩
/-- A map is no block of cells. -/
theorem MapAt.ne {w : World} {b bc : Nat} {c : Ct} {cs : List Value} {t : TypeId} (h : MapAt w b c) (hb : Blk w bc cs t) : b ≠ bc := by
  rintro rfl
  obtain ⟨es, clock, h1, _⟩ := h
  unfold Blk at hb
  rw [h1] at hb
  cases hb
def RetE (v : Value) (O : Obj) : Ending → Obj := fun e w F => e = .returned v ∧ O w F

/-! ### Get, Names, Number -/
def getV (c : Ct) (n : Bs) : Value := .tuple #[.string (btx ((getC c n).getD [])), .bool (getC c n).isSome]
set_option maxHeartbeats 1600000 in
theorem get_any (bc bn : Nat) (cs : List Value) (c : Ct) (s : ByteArray) (w : World) (hb : Blk w bc (.map (some bn) :: cs) 69) (hM : MapAt w bn c) (hs : s.size ≤ maxLen) :
    Calls Tryz.prog 19 #[.pointer (some ⟨bc, 0, none⟩), .string s] w fun e w' => e = .returned (getV c s.data.toList) ∧ Below w.heap.size w w' := by
  have c0 : w.cell? ⟨bc, 0, none⟩ = some (.map (some bn)) := hb.cell 0
  unfold getV
  obtain ⟨tx, htx⟩ : ∃ tx, btx ((getC c s.data.toList).getD []) = tx := ⟨_, rfl⟩
  obtain ⟨y, hy⟩ : ∃ y, (getC c s.data.toList).isSome = y := ⟨_, rfl⟩
  have hrw : Box (Value.tuple #[.agg #[.string (btx ((getC c s.data.toList).getD []))], .bool (getC c s.data.toList).isSome] = .tuple #[.agg #[.string tx], .bool y]) := ⟨by rw [htx, hy]⟩
  rw [htx, hy]
  have hB := Box.mk ((Below.refl w.heap.size w).alloc (Nat.le_refl _) (.cells #[.string tx] 79))
  replace hM := Box.mk hM
  replace hs := Box.mk hs
  clear hb htx hy
  go_enter Tryz.func19, Tryz.ntmps19
  go_wp2_with (at_lookup; refine wpList_look_ok rfl _ _ rfl bn c rfl hM.out s rfl hs.out ?_; rw [hrw.out])
  go_returns
  exact ⟨rfl, hB.out⟩
set_option maxHeartbeats 400000 in
theorem get_nil (s : ByteArray) (w : World) : Calls Tryz.prog 19 #[.pointer none, .string s] w fun e w' => e = .returned (.tuple #[.string ByteArray.empty, .bool false]) ∧ w = w' := by
  go_enter Tryz.func19, Tryz.ntmps19
  go_wp2_with fail
  go_returns
  exact ⟨rfl, rfl⟩
set_option maxHeartbeats 400000 in
theorem num_any (bc : Nat) (u v : Value) (m : Nat) (cs : List Value) (w : World) (hb : Blk w bc (u :: v :: .int .i64 (m : Int) :: cs) 69) :
    Calls Tryz.prog 9 #[.pointer (some ⟨bc, 0, none⟩)] w fun e w' => e = .returned (.int .i64 (m : Int)) ∧ w = w' := by
  have c0 : w.cell? ⟨bc, 2, none⟩ = some (.int .i64 (m : Int)) := hb.cell 2
  clear hb
  go_enter Tryz.func9, Tryz.ntmps9
  go_wp2_with fail
  go_returns
  exact ⟨rfl, rfl⟩
set_option maxHeartbeats 400000 in
theorem num_nil (w : World) : Calls Tryz.prog 9 #[.pointer none] w fun e w' => e = .returned (.int .i64 0) ∧ w = w' := by
  go_enter Tryz.func9, Tryz.ntmps9
  go_wp2_with fail
  go_returns
  exact ⟨rfl, rfl⟩
set_option maxHeartbeats 800000 in
theorem names_of (bc bn : Nat) (cs : List Value) (c : Ct) (w : World) (hb : Blk w bc (.map (some bn) :: cs) 69) (hM : MapAt w bn c) (hc : c.Pairwise (fun p q => p.1 < q.1)) (hl : c.length ≤ 1000000) :
    Calls Tryz.prog 43 #[.pointer (some ⟨bc, 0, none⟩)] w (NamesIs c w) := by
  have c0 : w.cell? ⟨bc, 0, none⟩ = some (.map (some bn)) := hb.cell 0
  have hN := Box.mk (names_any bn c w hM hc hl)
  clear hb hM hc hl
  go_enter Tryz.func43, Tryz.ntmps43
  go_wp2_with fail
  refine hN.out.mono ?_
  rintro e w' ⟨v, rfl, h1, h2, h3⟩
  replace h1 := Box.mk h1
  replace h2 := Box.mk h2
  clear hN c0
  go_wp2_with fail
  go_returns
  exact ⟨v, rfl, h1.out, h2.out, h3⟩
set_option maxHeartbeats 400000 in
theorem names_nil (w : World) : Calls Tryz.prog 43 #[.pointer none] w fun e w' => e = .returned (.slice none 0 0) ∧ w = w' := by
  go_enter Tryz.func43, Tryz.ntmps43
  go_wp2_with fail
  go_returns
  exact ⟨rfl, rfl⟩
end Go.Proofs.YtoaipjpbioaneaaGreat
