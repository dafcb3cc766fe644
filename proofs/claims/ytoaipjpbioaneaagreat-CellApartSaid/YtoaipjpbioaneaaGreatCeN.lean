/- A commit on a device whose power doesn't go: it goes through, and takes so many steps. On lists. -/
import Derived.Test.YtoaipjpbioaneaaGreatCeJ
namespace Go.Proofs.YtoaipjpbioaneaaGreat

theorem layM_never : ∀ (l : List Bs) (D : Dev) (n : Nat), D.off = false → D.fall = 0 → n + l.length ≤ D.safe.length → (∀ t ∈ l, t.length ≤ 64) →
    (layM l D n).1 = 0 ∧ (layM l D n).2.off = false ∧ (layM l D n).2.fall = 0 ∧ (layM l D n).2.taken = D.taken + l.length + 1 ∧ (layM l D n).2.safe.length = D.safe.length
  | [], D, n, ho, hf, _, _ => by
    obtain ⟨h1, h2⟩ := barrier_goes ho (by omega)
    unfold layM
    rw [h1, h2]
    refine ⟨rfl, ho, by show D.fall - 1 = 0; omega, rfl, ?_⟩
    show D.seen.length = _
    exact Dev.ok.seen_len
  | t :: r, D, n, ho, hf, hn, ht => by
    have hl : (t :: r).length = r.length + 1 := by simp
    rw [hl] at hn
    obtain ⟨h1, h2⟩ := write_goes (n := n) (t := t) ho (by omega) (ht t (by simp)) (by omega)
    unfold layM
    rw [h1, if_pos rfl]
    have ih := layM_never r (D.write n t) (n + 1) (by rw [h2]; exact ho) (by rw [h2]; show D.fall - 1 = 0; omega) (by rw [h2]; show n + 1 + r.length ≤ D.safe.length; omega) (fun u hu => ht u (by simp [hu]))
    have e1 : (D.write n t).taken = D.taken + 1 := by rw [h2]
    have e2 : (D.write n t).safe.length = D.safe.length := by rw [h2]
    refine ⟨ih.1, ih.2.1, ih.2.2.1, by rw [ih.2.2.2.1, e1, hl]; omega, ih.2.2.2.2.trans e2⟩
/-- A commit goes through, if the power doesn't go. -/
theorem commit_never {D : Dev} {base half num : Nat} {c d : Ct} {last : Nat} (hD : Calm D) (hf : D.fall = 0) (hR : Region D.safe base half num c last) (hd : d.ok) (hn : num < 1000000) (hl : (bytesC d).length ≤ 64 * (half - 1)) :
    (commitM D (toC base half last) (hdr (num + 1) (bytesC d).length) (pieces d)).1 = 0 ∧ Done D (commitM D (toC base half last) (hdr (num + 1) (bytesC d).length) (pieces d)).2 base half num d last ∧
      (commitM D (toC base half last) (hdr (num + 1) (bytesC d).length) (pieces d)).2.taken = D.taken + (pieces d).length + 5 ∧ (commitM D (toC base half last) (hdr (num + 1) (bytesC d).length) (pieces d)).2.fall = 0 := by
  have hfit := hR.fit
  have h2 := hR.half2
  have hi := toC_in (base := base) hR.last1 h2
  have hpl := pieces_len d half hl
  have a1 := layM_never [zeros] D (toC base half last) hD.off hf (by simp; omega) (by simp [zeros])
  obtain ⟨x1, x2, x3, x4, x5⟩ := a1
  have a2 := layM_never (pieces d) _ (toC base half last + 1) x2 x3 (by rw [x5]; omega) (pieces_le d)
  obtain ⟨y1, y2, y3, y4, y5⟩ := a2
  have a3 := layM_never [hdr (num + 1) (bytesC d).length] _ (toC base half last) y2 y3 (by rw [y5, x5]; simp; omega) (by simp [hdr_length])
  obtain ⟨z1, z2, z3, z4, z5⟩ := a3
  have e : commitM D (toC base half last) (hdr (num + 1) (bytesC d).length) (pieces d) = layM [hdr (num + 1) (bytesC d).length] (layM (pieces d) (layM [zeros] D (toC base half last)).2 (toC base half last + 1)).2 (toC base half last) := by
    unfold commitM; rw [x1, if_pos rfl, y1, if_pos rfl]
  rcases commit_cases hD hR hd hn hl with ⟨c1, c2⟩ | ⟨c1, _, _⟩
  · refine ⟨c1, c2, ?_, ?_⟩
    · rw [e, z4, y4, x4]; simp; omega
    · rw [e]; exact z3
  · rw [e, z1] at c1; cases c1
end Go.Proofs.YtoaipjpbioaneaaGreat
