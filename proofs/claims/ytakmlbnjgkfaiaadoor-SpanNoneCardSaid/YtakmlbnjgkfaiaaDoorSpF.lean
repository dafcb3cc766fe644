/- Nil spans; walk of the law SpanNone. -/
import Derived.Test.YtakmlbnjgkfaiaaDoorMSb
namespace Go.Proofs.YtakmlbnjgkfaiaaDoor
open Go Go.RowKit

set_option maxHeartbeats 400000 in
theorem append_nil (w : World) (s : ByteArray) :
    Calls Tryd.prog 11 #[.pointer none, .string s] w fun e w' => e = .returned (.tuple #[]) ∧ w = w' := by
  go_enter Tryd.func11, Tryd.ntmps11
  go_wp2_with fail
  go_returns
  exact ⟨rfl, rfl⟩
set_option maxHeartbeats 400000 in
theorem bytes_nils (w : World) :
    Calls Tryd.prog 22 #[.pointer none] w fun e w' => e = .returned (.tuple #[.string ⟨#[]⟩, .int .i64 1]) ∧ w = w' := by
  go_enter Tryd.func22, Tryd.ntmps22
  go_wp2_with fail
  go_returns
  exact ⟨rfl, rfl⟩
set_option maxHeartbeats 400000 in
theorem prove_nil (w : World) (a : Option Addr) (n c : Nat) :
    Calls Tryd.prog 25 #[.pointer none, .slice a n c] w fun e w' => e = .returned (.tuple #[.slice none 0 0, .int .i64 1]) ∧ w = w' := by
  go_enter Tryd.func25, Tryd.ntmps25
  go_wp2_with fail
  go_returns
  exact ⟨rfl, rfl⟩
set_option maxHeartbeats 400000 in
theorem size_nil (w : World) :
    Calls Tryd.prog 12 #[.pointer none] w fun e w' => e = .returned (.int .i64 0) ∧ w = w' := by
  go_enter Tryd.func12, Tryd.ntmps12
  go_wp2_with fail
  go_returns
  exact ⟨rfl, rfl⟩
set_option maxHeartbeats 400000 in
theorem peaks_nil (w : World) :
    Calls Tryd.prog 16 #[.pointer none] w fun e w' => e = .returned (.slice none 0 0) ∧ w = w' := by
  go_enter Tryd.func16, Tryd.ntmps16
  go_wp2_with fail
  go_returns
  exact ⟨rfl, rfl⟩
set_option maxHeartbeats 400000 in
theorem copy_nil (w : World) :
    Calls Tryd.prog 9 #[.pointer none] w fun e w' => e = .returned (.pointer none) ∧ w = w' := by
  go_enter Tryd.func9, Tryd.ntmps9
  go_wp2_with fail
  go_returns
  exact ⟨rfl, rfl⟩
set_option maxHeartbeats 800000 in
theorem sroot_nil (w : World) (hK : KIs w) :
    Calls Tryd.prog 13 #[.pointer none] w fun e w' => e = .returned (.string noneH) ∧ Below w.heap.size w w' := by
  have hS := size_nil w
  have hR := root_any 0 [] none 0 w (pa_none _ _) hK (fun x hx => by cases hx)
  rw [rootL_nil] at hR
  obtain ⟨y, hy⟩ : ∃ y, noneH = y := ⟨_, rfl⟩
  rw [hy] at hR ⊢
  clear hK hy
  go_enter Tryd.func13, Tryd.ntmps13
  go_wp2_with fail
  refine hS.mono ?_
  rintro e w1 ⟨rfl, rfl⟩
  clear hS
  go_wp2_with fail
  refine hR.mono ?_
  rintro e w1 ⟨rfl, hb⟩
  clear hR
  replace hb := Box.mk hb
  go_wp2_with fail
  go_ret
  exact ⟨rfl, hb.out⟩
set_option maxHeartbeats 1600000 in
set_option maxRecDepth 100000 in
theorem law_none (s : ByteArray) (w : World) (hK : KIs w) (hT : TIs w) :
    Calls Tryd.prog 7 #[.string s] w fun e w' => e = .returned (.bool true) ∧ Below w.heap.size w w' := by
  have hG := grows_any w hK hT
  replace hK := Box.mk hK
  clear hT
  go_enter Tryd.func7, Tryd.ntmps7
  go_wp2_with fail
  refine hG.mono ?_
  rintro e w1 ⟨rfl, hb1⟩
  clear hG
  replace hb1 := Box.mk hb1
  have h1 := append_nil w1 s
  go_wp2_with fail
  refine h1.mono ?_
  clear h1
  rintro e w2 ⟨rfl, rfl⟩
  have h1 := bytes_nils w1
  go_wp2_with fail
  refine h1.mono ?_
  clear h1
  rintro e w2 ⟨rfl, rfl⟩
  go_wp2_with fail
  obtain ⟨W, hW⟩ : ∃ W, w1.alloc (.cells #[.string s] 9) = W := ⟨_, rfl⟩
  have hb2 := Box.mk (mono_bel hb1.out (bel_alloc w1 (.cells #[.string s] 9)) (Nat.le_refl _))
  rw [hW] at hb2 ⊢
  have h1 := prove_nil W (some ⟨w1.heap.size, 0, none⟩) 1 1
  refine h1.mono ?_
  clear h1 hW hb1
  rintro e w2 ⟨rfl, rfl⟩
  have h1 := size_nil W
  go_wp2_with fail
  refine h1.mono ?_
  clear h1
  rintro e w2 ⟨rfl, rfl⟩
  have h1 := peaks_nil W
  go_wp2_with fail
  refine h1.mono ?_
  clear h1
  rintro e w2 ⟨rfl, rfl⟩
  have h1 := sroot_nil W (hK.out.below hb2.out hK.out.lt)
  obtain ⟨y, hy⟩ : ∃ y, noneH = y := ⟨_, rfl⟩
  rw [hy] at h1
  replace hy := Box.mk hy
  go_wp2_with fail
  refine h1.mono ?_
  clear h1
  rintro e w3 ⟨rfl, hb⟩
  have hb3 := Box.mk (mono_bel hb2.out hb (Nat.le_refl _))
  clear hb hb2
  have h1 := rroot_any 0 [] none 0 w3 (pa_none _ _) (fun x hx => by cases hx)
  rw [rootL_nil, hy.out] at h1
  go_wp2_with fail
  refine h1.mono ?_
  clear h1
  rintro e w4 ⟨rfl, hb⟩
  have hb4 := Box.mk (mono_bel hb3.out hb (Nat.le_refl _))
  clear hb hb3
  have h1 := copy_nil w4
  go_wp2_with fail
  refine h1.mono ?_
  clear h1
  rintro e w5 ⟨rfl, rfl⟩
  go_wp2_with fail
  go_ret
  exact ⟨rfl, hb4.out⟩
end Go.Proofs.YtakmlbnjgkfaiaaDoor
