/- Walks of New, Read and Write. -/
import Derived.Test.YtoaipjpbioaneaaGreatFlC
namespace Go.Proofs.YtoaipjpbioaneaaGreat
open Go.RowKit

set_option maxHeartbeats 800000 in
theorem new_bad (n : Int) (w : World) (hn : n < 1 ∨ 4096 < n) :
    Calls Tryz.prog 16 #[.int .i64 n] w fun e w' => e = .returned (.tuple #[.pointer none, .int .i64 1]) ∧ w = w' := by
  rcases hn with h | h
  all_goals
    go_enter Tryz.func16, Tryz.ntmps16
    go_wp2
    go_ret2
    exact ⟨rfl, rfl⟩
def NewDev (w : World) (n : Nat) (e : Ending) (w' : World) : Prop :=
  ∃ bd, e = .returned (.tuple #[.pointer (some ⟨bd, 0, none⟩), .int .i64 0]) ∧ DAt w' bd (fun k => w.heap.size ≤ k ∧ k < w'.heap.size) (Dev.new n) ∧ Below w.heap.size w w'
theorem newdev_of (w w1 : World) (n g : Nat) (h2 : n ≤ 4096) (hr : Row w1 81 64 (.slice (some ⟨g, 0, none⟩) n n) n (secCells (List.replicate n zeroS))) (hb : Below w.heap.size w w1) (hg : w.heap.size ≤ g) :
    NewDev w n (.returned (.tuple #[.pointer (some ⟨w1.heap.size, 0, none⟩), .int .i64 0])) (w1.alloc (.cells #[.slice (some ⟨g, 0, none⟩) n n, .slice none 0 0, .int .i64 0, .int .i64 0, .bool false] 73)) := by
  have hnew := Blk.new w1 [.slice (some ⟨g, 0, none⟩) n n, .slice none 0 0, .int .i64 0, .int .i64 0, .bool false] 73
  have hsz := hb.size
  have hlt := hr.lt g rfl
  refine ⟨_, rfl, ⟨Dev.new_ok n h2, ⟨_, _, hnew, ?_, Row.nil _ _ _, fun k hk => ?_, fun k hk => by cases hk⟩, ?_, fun k hk => hk.2⟩, hb.alloc hsz _⟩
  · have := hr.chg (S := fun _ => False) ((Chg.refl _ _).alloc (.cells #[.slice (some ⟨g, 0, none⟩) n n, .slice none 0 0, .int .i64 0, .int .i64 0, .bool false] 73)) (fun _ _ h => h)
    simpa [Dev.new, Dev.seen, runW] using this
  · obtain rfl : g = k := by simpa [Value.ownBlock] using hk
    simp; omega
  · simp; omega
set_option maxHeartbeats 800000 in
theorem new_fit (n : Nat) (w : World) (h1 : 1 ≤ n) (h2 : n ≤ 4096) :
    Calls Tryz.prog 16 #[.int .i64 (n : Int)] w (NewDev w n) := by
  obtain ⟨i, z, hi, hz, hi1, hi2, hL⟩ := info_cells infoS
  have hH := Box.mk (And.intro hi (And.intro hz (And.intro hi1 (And.intro hi2 hL))))
  clear hi hz hi1 hi2 hL
  go_enter Tryz.func16, Tryz.ntmps16
  go_wp2_with (at_make; refine wpList_make_full _ rfl (.tmp 10) (.tmp 10) 70 rfl w.heap.size 81 i z 64 Tryz.underlying70 hH.out.1 hH.out.2.1 hH.out.2.2.1 .i64 .i64 _ _ n rfl rfl rfl rfl (by rw [hH.out.2.2.2.1]; omega) (by unfold maxLen; omega) (Nat.le_refl _) ?_; intro w1 hown hg)
  go_ret2
  refine newdev_of w w1 n _ h2 ?_ ⟨hg.os, hg.tape, hg.output, hg.size, fun k hk => hg.block k hk (by simp)⟩ (Nat.le_refl _)
  rw [hH.out.2.2.2.2, made_rep _ _ _ (by omega)] at hown
  rw [secCells_new]
  obtain ⟨x1, x2⟩ := hown
  refine ⟨x1, x2.imp id ?_⟩
  rintro ⟨g, cap, cur, e1, e2, e3⟩
  exact ⟨g, cap, cur, e1, Nat.zero_le _, e3⟩

theorem read_refused (bd : Nat) (F : Nat → Prop) (D : Dev) (n : Int) (w : World) (h : DAt w bd F D) (hr : D.refused n ≠ 0) :
    Calls Tryz.prog 90 #[.pointer (some ⟨bd, 0, none⟩), .int .i64 n] w fun e w' => e = .returned (.tuple #[.string ByteArray.empty, .int .i64 (D.refused n)]) ∧ w = w' := by
  have hR := refused_any bd F D n w h
  have hb : ((D.refused n) != 0) = true := by simpa using hr
  generalize D.refused n = x at *
  replace hR := Box.mk hR
  clear hr h
  go_enter Tryz.func90, Tryz.ntmps90
  go_wp2_with fail
  refine hR.out.mono ?_
  rintro e w' ⟨rfl, rfl⟩
  go_wp2_with fail
  go_ret2
  exact ⟨rfl, rfl⟩
theorem read_nil (n : Int) (w : World) :
    Calls Tryz.prog 90 #[.pointer none, .int .i64 n] w fun e w' => e = .returned (.tuple #[.string ByteArray.empty, .int .i64 1]) ∧ w = w' := by
  go_enter Tryz.func90, Tryz.ntmps90
  go_wp2_with fail
  refine (refused_nil n w).mono ?_
  rintro e w' ⟨rfl, rfl⟩
  go_wp2_with fail
  go_ret2
  exact ⟨rfl, rfl⟩
theorem refused_zero {D : Dev} {n : Int} (h : D.refused n = 0) : D.off = false ∧ ∃ k : Nat, n = (k : Int) ∧ k < D.safe.length := by
  unfold Dev.refused at h
  split at h
  · simp at h
  · split at h
    · simp at h
    · next h1 h2 => exact ⟨by simpa using h1, n.toNat, by omega, by omega⟩
theorem bytes_conv (w : World) (g o c : Nat) (l : List UInt8) (hc : w.rangeAt g o (l.map yc)) : (convert 84 9 (.slice (some ⟨g, o, none⟩) l.length c)).run Tryz.prog w = .ok (.string ⟨l.toArray⟩) w := by
  have hcl : ∀ i, i < l.length → w.cell? ⟨g, o + i, none⟩ = some (.int .u8 ((l.map Y).getD i 0)) := by
    intro i hi
    have := hc i (yc (l[i])) (by simp [hi])
    rw [this]
    simp [yc, List.getD, hi]
  have := run_convert_bytes_arg (P := Tryz.prog) w 84 5 Tryz.underlying84 Tryz.underlying5 g o l.length c (l.map Y) (by simp) hcl 9 Tryz.underlying9
  rw [Y_back] at this; exact this
set_option maxHeartbeats 800000 in
theorem read_fit (bd : Nat) (F : Nat → Prop) (D : Dev) (n : Nat) (w : World) (h : DAt w bd F D) (hoff : D.off = false) (hn : n < D.safe.length) :
    Calls Tryz.prog 90 #[.pointer (some ⟨bd, 0, none⟩), .int .i64 (n : Int)] w fun e w' => e = .returned (.tuple #[.string ⟨(D.seen.getD n zeroS).toArray⟩, .int .i64 0]) ∧ w = w' := by
  have hR := refused_any bd F D n w h
  have hz : D.refused (n : Int) = 0 := by unfold Dev.refused; rw [hoff, if_neg (by simp), if_neg (by omega)]
  rw [hz] at hR
  obtain ⟨vs, vp, hb, hs, _, _, _⟩ := h.out
  obtain ⟨g, c, rfl, hg⟩ := hs.some (by omega)
  have hsl : D.seen.length = D.safe.length := Dev.ok.seen_len
  have hx := (Hold.of_row hs).range (n * 64) 64
  rw [secCells_get _ _ h.ok.seen (by omega)] at hx
  have hl : (D.seen.getD n zeroS).length = 64 := okS_getD h.ok.seen n
  have hconv := bytes_conv w g (n * 64) 64 (D.seen.getD n zeroS) hx
  rw [hl] at hconv
  have c0 : w.cell? ⟨bd, 0, none⟩ = some (.slice (some ⟨g, 0, none⟩) D.safe.length c) := hb.cell 0
  obtain ⟨T, hT⟩ : ∃ T : ByteArray, (⟨(D.seen.getD n zeroS).toArray⟩ : ByteArray) = T := ⟨_, rfl⟩
  rw [hT] at hconv ⊢
  generalize D.safe.length = N at *
  replace hR := Box.mk hR
  clear hb hs h hx hl hT hsl hz hoff
  go_enter Tryz.func90, Tryz.ntmps90
  go_wp2_with fail
  refine hR.out.mono ?_
  rintro e w' ⟨rfl, rfl⟩
  clear hR
  go_wp2_with fail
  go_ret2
  exact ⟨rfl, rfl⟩
end Go.Proofs.YtoaipjpbioaneaaGreat
