/- Rows of texts that are cut, made and appended to (out of TrA and TxR), for package note. | Walks of note.goodOrigin, unhex, goodCheckpoint and of the document's Origin. -/
import Derived.Deep.Upon
import Derived.Test.YthkfefkcjcgfkaaGreatDoorWa8
import Derived.Test.YthkfefkcjcgfkaaGreatDoorWb0
import Derived.Test.YthkfefkcjcgfkaaGreatDoorWkr
import Derived.Test.YthkfefkcjcgfkaaGreatDoorWnm
set_option linter.all false
namespace Go.Proofs.YthkfefkcjcgfkaaGreatDoor.Nt
open Go Go.RowKit

theorem mono_bel {B : Nat} {w w1 w2 : World} (h : Below B w w1) (k : Below w1.heap.size w1 w2) (hB : B ≤ w.heap.size) : Below B w w2 := h.trans (k.mono (Nat.le_trans hB h.size))
theorem dB (w : World) : Below w.heap.size w w.drew := Drawn.below ⟨1, rfl⟩
theorem bel_alloc (w : World) (o : Obj) : Below w.heap.size w (w.alloc o) := (Below.refl _ _).alloc (Nat.le_refl _) _
section
variable {w : World} {o : Oper} {a : Act} {Q : Exit → Act → World → Prop}
end
end Go.Proofs.YthkfefkcjcgfkaaGreatDoor.Nt

namespace Go.Proofs.YthkfefkcjcgfkaaGreatDoor.Nt
open Go Go.RowKit

theorem ret_b {a b : Bool} (h : b = a) : Ending.returned (.bool a) = .returned (.bool b) := by rw [h]
theorem ret_i {k : IntKind} {a b : Int} (h : b = a) : Ending.returned (.int k a) = .returned (.int k b) := by rw [h]
theorem gO_bad {s : ByteArray} {i : Nat} (h : i < s.size) (x : UInt8) (hx : s[i] = x) (hn : ¬ (33 ≤ x.toNat ∧ x.toNat ≤ 126)) : gO s.data.toList = false := by
  rw [← Bool.not_eq_true]
  intro hg
  unfold gO at hg
  simp only [Bool.and_eq_true, List.all_eq_true, decide_eq_true_eq] at hg
  exact hn (hg.1 x (by rw [← hx]; exact List.getElem_mem (l := s.data.toList) (by rw [data_len]; exact h)))
theorem gO_all {s : ByteArray} (h : ∀ j (hj : j < s.size), 33 ≤ s[j].toNat ∧ s[j].toNat ≤ 126) : gO s.data.toList = decide (1 ≤ s.size ∧ s.size ≤ 64) := by
  unfold gO
  rw [data_len]
  have : (s.data.toList.all fun c => decide (33 ≤ c.toNat ∧ c.toNat ≤ 126)) = true := by
    simp only [List.all_eq_true, decide_eq_true_eq]
    intro x hx
    obtain ⟨i, hi, rfl⟩ := List.getElem_of_mem hx
    exact h i (by rw [data_len] at hi; exact hi)
  rw [this, Bool.true_and]
def OkTo (s : ByteArray) (i : Nat) : Prop := ∀ j (hj : j < s.size), j < i → 33 ≤ s[j].toNat ∧ s[j].toNat ≤ 126
theorem OkTo.zero (s : ByteArray) : OkTo s 0 := fun _ _ h => absurd h (Nat.not_lt_zero _)
theorem OkTo.next {s : ByteArray} {i : Nat} (h : OkTo s i) (hi : i < s.size) (x : UInt8) (hx : s[i] = x) (h1 : 33 ≤ x.toNat ∧ x.toNat ≤ 126) : OkTo s (i + 1) := fun j hj hl => by
  by_cases hji : j < i
  · exact h j hj hji
  · obtain rfl : j = i := by omega
    rw [hx]; exact h1
set_option maxHeartbeats 800000 in
set_option maxRecDepth 100000 in
theorem origin_any (s : ByteArray) (w : World) (hs : s.size ≤ 140737488355328) :
    Calls Tryz.prog 58 #[.string s] w fun e w' => e = .returned (.bool (gO s.data.toList)) ∧ w = w' := by
  by_cases hlen : 1 ≤ s.size ∧ s.size ≤ 64
  · obtain ⟨h1, h2⟩ := hlen
    have hO := Box.mk (OkTo.zero s)
    have d1 : decide ((s.size : Int) < 1) = false := by simpa using (by omega : ¬ (s.size : Int) < 1)
    have d2 : decide (64 < (s.size : Int)) = false := by simpa using (by omega : ¬ 64 < (s.size : Int))
    go_enter Tryz.func58, Tryz.ntmps58
    go_wp2_with fail
    go_loop [14] (fun q => ∃ i : Nat, i ≤ s.size ∧ q = .int .i64 (i : Int) ∧ Box (OkTo s i)) (fun q => s.size - (intOf q).toNat)
    case atStart => exact ⟨0, by omega, rfl, hO⟩
    case round =>
      clear hO
      obtain ⟨i, hi, rfl, hO⟩ := hrel
      by_cases hlt : i < s.size
      · obtain ⟨x, hx⟩ : ∃ x, s[i] = x := ⟨_, rfl⟩
        have hxl := x.toNat_lt
        by_cases hk : 33 ≤ x.toNat ∧ x.toNat ≤ 126
        · have hN := Box.mk (hO.out.next hlt x hx hk)
          obtain ⟨k1, k2⟩ := hk
          clear hO
          go_wp2_with fail
          go_round
          case rel => exact ⟨i + 1, by omega, by go_num, hN⟩
          case measure => simp [intOf]; omega
        · have hN := Box.mk (gO_bad hlt x hx hk)
          clear hO
          by_cases k1 : 33 ≤ x.toNat
          · have k2 : 126 < x.toNat := by omega
            clear hk
            go_wp2_with fail
            go_ret
            exact ⟨ret_b hN.out, rfl⟩
          · clear hk
            go_wp2_with fail
            go_ret
            exact ⟨ret_b hN.out, rfl⟩
      · obtain rfl : i = s.size := by omega
        have hN := Box.mk (gO_all fun j hj => hO.out j hj hj)
        rw [decide_eq_true (⟨h1, h2⟩ : 1 ≤ s.size ∧ s.size ≤ 64)] at hN
        clear hO
        go_wp2_with fail
        go_ret
        exact ⟨ret_b hN.out, rfl⟩
  · have hN : gO s.data.toList = false := by
      rw [← Bool.not_eq_true]
      intro hg
      unfold gO at hg
      rw [data_len] at hg
      simp only [Bool.and_eq_true, decide_eq_true_eq] at hg
      exact hlen hg.2
    replace hN := Box.mk hN
    by_cases k1 : 1 ≤ s.size
    · have k2 : 64 < s.size := by omega
      clear hlen
      go_enter Tryz.func58, Tryz.ntmps58
      go_wp2_with fail
      go_ret
      exact ⟨ret_b hN.out, rfl⟩
    · clear hlen
      go_enter Tryz.func58, Tryz.ntmps58
      go_wp2_with fail
      go_ret
      exact ⟨ret_b hN.out, rfl⟩
set_option maxHeartbeats 800000 in
set_option maxRecDepth 100000 in
theorem nunhex_any (s : ByteArray) (w : World) (hs : s.size ≤ 70368744177664) :
    Calls Tryz.prog 16 #[.string s] w fun e w' => e = .returned (.string (unT s.data.toList)) ∧ Below w.heap.size w w' := by
  have hF := unhex_any s w hs
  obtain ⟨T, hT⟩ : ∃ T, unT s.data.toList = T := ⟨_, rfl⟩
  obtain ⟨C, hC⟩ : ∃ C, unB s.data.toList = C := ⟨_, rfl⟩
  rw [hT, hC] at hF
  rw [hT]
  clear hT hC
  go_enter Tryz.func16, Tryz.ntmps16
  go_wp2_with fail
  refine hF.mono ?_
  rintro e w1 ⟨rfl, hb⟩
  replace hb := Box.mk hb
  clear hF
  go_wp2_with fail
  go_ret
  exact ⟨rfl, hb.out⟩
/-- A checkpoint as a value. -/
def ckV (c : Ck) : Value := .agg #[.string c.o, .int .i64 c.n, .string c.r]
def ckCells (c : Ck) : List Value := [.string c.o, .int .i64 c.n, .string c.r]
set_option maxHeartbeats 1600000 in
set_option maxRecDepth 100000 in
theorem good_any (c : Ck) (w : World) (ho : c.o.size ≤ 140737488355328) (hr : c.r.size ≤ 140737488355328) :
    Calls Tryz.prog 23 #[ckV c] w fun e w' => e = .returned (.bool (gC c)) ∧ Below w.heap.size w w' := by
  obtain ⟨o, n, r⟩ := c
  simp only at ho hr
  have hF := fun w' => origin_any o w' ho
  have hg : gC ⟨o, n, r⟩ = (gO o.data.toList && decide (0 ≤ n) && decide (n ≤ 1024) && decide (r.size = 32)) := rfl
  rw [hg]
  obtain ⟨G, hG⟩ : ∃ G, gO o.data.toList = G := ⟨_, rfl⟩
  rw [hG] at hF ⊢
  have hb := bel_alloc w (.cells #[.string o, .int .i64 n, .string r] 23)
  replace hb := Box.mk hb
  unfold ckV
  clear hg hG ho
  cases G with
  | false =>
    go_enter Tryz.func23, Tryz.ntmps23
    go_wp2_with fail
    refine (hF _).mono ?_
    clear hF
    rintro e w1 ⟨rfl, rfl⟩
    go_wp2_with fail
    go_ret
    exact ⟨rfl, hb.out⟩
  | true =>
    by_cases h1 : 0 ≤ n
    · by_cases h2 : n ≤ 1024
      · by_cases h3 : r.size = 32
        · have h4 : (r.size : Int) = 32 := by omega
          rw [decide_eq_true h1, decide_eq_true h2, decide_eq_true h3]
          clear h3
          go_enter Tryz.func23, Tryz.ntmps23
          go_wp2_with fail
          refine (hF _).mono ?_
          clear hF
          rintro e w1 ⟨rfl, rfl⟩
          go_wp2_with fail
          go_ret
          exact ⟨rfl, hb.out⟩
        · have h4 : ((r.size : Int) == 32) = false := by simpa using (by omega : (r.size : Int) ≠ 32)
          rw [decide_eq_true h1, decide_eq_true h2, decide_eq_false h3]
          clear h3
          go_enter Tryz.func23, Tryz.ntmps23
          go_wp2_with fail
          refine (hF _).mono ?_
          clear hF
          rintro e w1 ⟨rfl, rfl⟩
          go_wp2_with fail
          go_ret
          exact ⟨rfl, hb.out⟩
      · rw [decide_eq_true h1, decide_eq_false h2]
        go_enter Tryz.func23, Tryz.ntmps23
        go_wp2_with fail
        refine (hF _).mono ?_
        clear hF
        rintro e w1 ⟨rfl, rfl⟩
        go_wp2_with fail
        go_ret
        exact ⟨rfl, hb.out⟩
    · rw [decide_eq_false h1]
      go_enter Tryz.func23, Tryz.ntmps23
      go_wp2_with fail
      refine (hF _).mono ?_
      clear hF
      rintro e w1 ⟨rfl, rfl⟩
      go_wp2_with fail
      go_ret
      exact ⟨rfl, hb.out⟩
end Go.Proofs.YthkfefkcjcgfkaaGreatDoor.Nt
