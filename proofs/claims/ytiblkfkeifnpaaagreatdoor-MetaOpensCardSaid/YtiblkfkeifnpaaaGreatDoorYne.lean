/- meta: MetaSeals walked. -/
import Derived.Test.YtiblkfkeifnpaaaGreatDoorYnc
set_option linter.all false
namespace Go.Proofs.YtiblkfkeifnpaaaGreatDoor.Me
open Go Go.RowKit Go.Proofs.YtiblkfkeifnpaaaGreatDoor Go.Proofs.YtiblkfkeifnpaaaGreatDoor.Nt
theorem laySe_len {body : ByteArray} {sg : List SigM} (h : sealB body sg = true) : (laySe (body, sg)).length ≤ 100000 := by
  simp only [sealB, Bool.and_eq_true, decide_eq_true_iff, List.all_eq_true] at h
  have f : ∀ l : List SigM, (∀ x ∈ l, x.1.size = 32 ∧ x.2.size ≤ 1024) → (l.flatMap fun x => x.1.data.toList ++ Pk.textL x.2).length ≤ 1058 * l.length := by
    intro l hl
    induction l with
    | nil => exact Nat.zero_le _
    | cons x l ih =>
      have k := hl x (List.mem_cons_self ..)
      have := ih fun y hy => hl y (List.mem_cons_of_mem _ hy)
      rw [List.flatMap_cons, List.length_append, List.length_append, data_len, textL_len, List.length_cons, k.1]
      omega
  have := f sg h.2.2
  show (Pk.textL body ++ laySg sg).length ≤ _
  rw [List.length_append, textL_len, laySg, List.length_append, Pk.beN_length]
  omega
theorem seal_size (body : ByteArray) (sg : List SigM) : (sealV body sg).1.size ≤ 100000 := by
  unfold sealV
  by_cases h : sealB body sg = true
  · rw [if_pos h, Pk.mk_size]; exact laySe_len h
  · rw [if_neg h]; exact Nat.zero_le _
end Go.Proofs.YtiblkfkeifnpaaaGreatDoor.Me
