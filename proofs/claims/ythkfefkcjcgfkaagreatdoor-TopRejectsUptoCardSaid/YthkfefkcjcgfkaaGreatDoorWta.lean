/- Helpers of TopRejects: a document in a variable; what is read is told. -/
import Derived.Test.YthkfefkcjcgfkaaGreatDoorWn6
import Derived.Test.YthkfefkcjcgfkaaGreatDoorWn5
import Derived.Test.YthkfefkcjcgfkaaGreatDoorWmh
import Derived.Test.YthkfefkcjcgfkaaGreatDoorWmj
import Derived.Test.YthkfefkcjcgfkaaGreatDoorWkt
import Derived.Test.YthkfefkcjcgfkaaGreatDoorWb3
import Derived.Test.YthkfefkcjcgfkaaGreatDoorWbn
set_option linter.all false
namespace Go.Proofs.YthkfefkcjcgfkaaGreatDoor.Me
open Go Go.RowKit Go.Proofs.YthkfefkcjcgfkaaGreatDoor Go.Proofs.YthkfefkcjcgfkaaGreatDoor.Nt
set_option linter.all false
theorem store_new {w W : World} {D : Dc} {z : Sl} (hW : (w.alloc (.cells #[.int .i64 0, .int .i64 0, .int .i64 0, .slice none 0 0, .int .i64 0, .slice none 0 0, .int .i64 0, .slice none 0 0, .int .i64 0, .slice none 0 0, .int .i64 0, .slice none 0 0, .int .i64 0, .string ⟨#[]⟩, .string ⟨#[]⟩, .slice none 0 0, .string ⟨#[]⟩, .int .i64 0, .string ⟨#[]⟩, .int .i64 0, .string ⟨#[]⟩] 46)).setCells w.heap.size 0 (docL D z) = W) : Below w.heap.size w W ∧ Pk.Blk W w.heap.size (docL D z) 46 := by
  have hb := Pk.Blk.new w (docL dc0 zz0) 46
  refine ⟨?_, by rw [← hW]; exact blk_all hb rfl⟩
  have hc : Pk.Chg (fun k => k = w.heap.size) (w.alloc (.cells #[.int .i64 0, .int .i64 0, .int .i64 0, .slice none 0 0, .int .i64 0, .slice none 0 0, .int .i64 0, .slice none 0 0, .int .i64 0, .slice none 0 0, .int .i64 0, .slice none 0 0, .int .i64 0, .string ⟨#[]⟩, .string ⟨#[]⟩, .slice none 0 0, .string ⟨#[]⟩, .int .i64 0, .string ⟨#[]⟩, .int .i64 0, .string ⟨#[]⟩] 46)) W := by rw [← hW]; exact chg_setCells (S := fun k => k = w.heap.size) rfl _ _ _ (Pk.Chg.refl _ _)
  have h1 : Below w.heap.size w (w.alloc (.cells #[.int .i64 0, .int .i64 0, .int .i64 0, .slice none 0 0, .int .i64 0, .slice none 0 0, .int .i64 0, .slice none 0 0, .int .i64 0, .slice none 0 0, .int .i64 0, .slice none 0 0, .int .i64 0, .string ⟨#[]⟩, .string ⟨#[]⟩, .slice none 0 0, .string ⟨#[]⟩, .int .i64 0, .string ⟨#[]⟩, .int .i64 0, .string ⟨#[]⟩] 46)) := bel_alloc _ _
  exact h1.trans (hc.below h1.size fun _ hi => by rw [hi]; exact Nat.le_refl _)
theorem store_var {w : World} {D : Dc} {z : Sl} : ∃ b, w.heap.size = b ∧ Box (Pk.Blk (w.alloc (.cells #[.int .i64 0, .int .i64 0, .int .i64 0, .slice none 0 0, .int .i64 0, .slice none 0 0, .int .i64 0, .slice none 0 0, .int .i64 0, .slice none 0 0, .int .i64 0, .slice none 0 0, .int .i64 0, .string ⟨#[]⟩, .string ⟨#[]⟩, .slice none 0 0, .string ⟨#[]⟩, .int .i64 0, .string ⟨#[]⟩, .int .i64 0, .string ⟨#[]⟩] 46)) b (docL dc0 zz0) 46) ∧ Box (∀ W, (w.alloc (.cells #[.int .i64 0, .int .i64 0, .int .i64 0, .slice none 0 0, .int .i64 0, .slice none 0 0, .int .i64 0, .slice none 0 0, .int .i64 0, .slice none 0 0, .int .i64 0, .slice none 0 0, .int .i64 0, .string ⟨#[]⟩, .string ⟨#[]⟩, .slice none 0 0, .string ⟨#[]⟩, .int .i64 0, .string ⟨#[]⟩, .int .i64 0, .string ⟨#[]⟩] 46)).setCells b 0 (docL D z) = W → Below w.heap.size w W ∧ Pk.Blk W b (docL D z) 46) :=
  ⟨_, rfl, ⟨Pk.Blk.new w (docL dc0 zz0) _⟩, ⟨fun W h => store_new h⟩⟩
theorem dec_ok {l : List UInt8} : DcOk (decM l).1 := by
  unfold decM
  split
  · exact rd_len l 0
  · exact ⟨Nat.zero_le _, Nat.zero_le _, Nat.zero_le _, Nat.zero_le _, Nat.zero_le _, Nat.zero_le _, Nat.zero_le _, Nat.zero_le _, Nat.zero_le _⟩
theorem me_case (s : ByteArray) : (∃ D : Dc, decM s.data.toList = (D, 0) ∧ encR D = .tuple #[.string s, .int .i64 0]) ∨ decM s.data.toList = (dc0, 3) := by
  by_cases h : (decM s.data.toList).2 = 0
  · obtain ⟨h1, h2⟩ := dec_told h
    refine .inl ⟨(decM s.data.toList).1, Prod.ext rfl h, ?_⟩
    unfold encR encV
    rw [if_pos h1, h2, Pk.mk_data]
  · right
    unfold decM at h ⊢
    split at h
    · exact absurd rfl h
    · next hc => rw [if_neg hc]
end Go.Proofs.YthkfefkcjcgfkaaGreatDoor.Me
namespace Go.Proofs.YthkfefkcjcgfkaaGreatDoor.Nt
open Go Go.RowKit Go.Proofs.YthkfefkcjcgfkaaGreatDoor
theorem pc_nil : pCk (⟨#[]⟩ : ByteArray).data.toList = none := by
  cases h : pCk (⟨#[]⟩ : ByteArray).data.toList with
  | none => rfl
  | some c =>
    have h2 := (pCk_some h).2
    have h3 := congrArg List.length h2
    simp [ckL, jn, lTitle] at h3
theorem rd_told {s : ByteArray} {n : ByteArray × List (ByteArray × ByteArray)} (h : rdN s.data.toList = some n) : fmV n = .tuple #[.string s, .int .i64 0] ∧ n.1.size ≤ s.size ∧ n.2.length ≤ 16 ∧ ZS n.2 := by
  obtain ⟨h1, h2⟩ := rdN_some h
  obtain ⟨t, sg⟩ := n
  obtain ⟨g1, g2, g3⟩ := gN_iff.1 h1
  refine ⟨?_, ?_, g2, fun x hx => by have := g3 x hx; omega⟩
  · rw [fmV_yes h1, h2]
  · have h3 := congrArg List.length h2
    unfold byN at h3
    dsimp only at h3
    rw [List.length_append, data_len, data_len] at h3
    show t.size ≤ s.size
    omega
theorem pc_told {s : ByteArray} {c : Ck} (h : pCk s.data.toList = some c) : txtV c = .tuple #[.string s, .int .i64 0] ∧ c.o.size ≤ 64 ∧ c.r.size = 32 := by
  obtain ⟨h1, h2⟩ := pCk_some h
  obtain ⟨g1, g2, g3, g4⟩ := gC_iff.1 h1
  refine ⟨?_, gO_size g1, g4⟩
  rw [txtV_yes h1]
  unfold ckT
  rw [h2]
end Go.Proofs.YthkfefkcjcgfkaaGreatDoor.Nt
namespace Go.Proofs.YthkfefkcjcgfkaaGreatDoor.Ti
open Go Go.RowKit Go.Proofs.YthkfefkcjcgfkaaGreatDoor
theorem pa_told {s : ByteArray} {L I W : Int} (h : parseD s.data.toList = some (L, I, W)) : pathT L I W = s := ba_ext (parse_some h).1
end Go.Proofs.YthkfefkcjcgfkaaGreatDoor.Ti
