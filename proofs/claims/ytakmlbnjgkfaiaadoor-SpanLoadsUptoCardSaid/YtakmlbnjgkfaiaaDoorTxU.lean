/- Texts that came in, where their bulk is bounded: a slice of texts, a proof (law 8). -/
import Derived.SliceStrings
import Derived.OpenShut
import Derived.ChangeMaps5
import Derived.Test.YtakmlbnjgkfaiaaDoorMTe
namespace Go.Proofs.YtakmlbnjgkfaiaaDoor
open Go Go.ChangeShapes Go.WideShapes Go.ChangeAt Go.RowKit Go.ChangeMaps

theorem bulk_mem {H : Type} : ∀ (l : List ByteArray) (s : ByteArray), s ∈ l → s.size ≤ Rows.uptoBulkAll (H := H) (strs l)
  | [], s, h => by cases h
  | x :: l, s, h => by
    have h3 : (strs (x :: l) : List (DataW H)) = .lit (.string x.data.toList) :: strs l := rfl
    rw [h3, Rows.uptoBulkAll, Rows.uptoBulk, data_len]
    rcases List.mem_cons.1 h with rfl | h
    · omega
    · have := bulk_mem (H := H) l s h; omega
set_option maxRecDepth 100000 in
theorem texts_trod {H : Type} {enc : TypeId × Value → H} {W : World} {fuel : Nat} {v : Value} {x : DataW H × List MemPlace} (hf : DataW.trod enc Tryd.prog W 0 (fun _ => true) true fuel 22 [v] = some x) :
    ∃ (a : Option Addr) (ps : List ByteArray) (c : Nat), v = .slice a ps.length c ∧ PA W a ps.length c ps ∧ ∀ s ∈ ps, s.size ≤ Rows.uptoBulk x.1 := by
  rcases open_strings Tryd.underlying22 Tryd.underlying9 (by kernel_rfl) hf with ⟨hcs, rfl⟩ | ⟨a, len, cap, ss, hcs, _, hl, hm, hlen, rfl, hcell, hsz⟩
  · simp at hcs
    subst hcs
    exact ⟨none, [], 0, rfl, pa_none _ _, fun s hs => by cases hs⟩
  · simp at hcs
    subst hcs
    simp only [if_true] at hlen
    unfold maxLen at hm
    have hpl : (ss.take len).length = len := by rw [List.length_take]; omega
    refine ⟨some a, ss.take len, cap, by rw [hpl], ⟨rfl, by omega, by omega, fun h0 => ?_⟩, fun s hs => ?_⟩
    · rw [hpl] at h0
      have hc0 := hcell 0 (by omega)
      obtain ⟨blk, off, spot⟩ := a
      have hspot : spot = none := by simpa [Addr.add] using World.cell?_spot hc0
      subst hspot
      refine ⟨blk, off, rfl, by simpa [Addr.add] using World.block_lt_of_cell? W _ hc0, fun i hi => ?_⟩
      rw [hpl] at hi
      have hci := hcell i (by omega)
      have hadd : (⟨blk, off, none⟩ : Addr).add i = ⟨blk, off + i, none⟩ := by
        unfold Addr.add
        split
        · next h => subst h; rfl
        · rfl
      rw [hadd] at hci
      rw [hci]
      simp [List.getD, hi]
    · have := bulk_mem (H := H) _ s hs
      simp only [Rows.uptoBulk]
      omega
set_option maxRecDepth 100000 in
theorem texts_bulk {H : Type} {enc : TypeId × Value → H} {W : World} {base : Nat} {v : Value} {d : DataW H} {p : List MemPlace}
    (hv : Value.okWide Tryd.prog W .any base 22 v) (h : DataW.Trod enc Tryd.prog W 0 (fun _ => true) true 22 v d p) :
    ∃ (a : Option Addr) (ps : List ByteArray) (c : Nat), v = .slice a ps.length c ∧ PA W a ps.length c ps ∧ ∀ s ∈ ps, s.size ≤ Rows.uptoBulk d := by
  obtain ⟨a0, l0, c0, rfl⟩ := okWide_slice Tryd.underlying22 hv
  obtain ⟨fuel, hf⟩ := h
  exact texts_trod hf
end Go.Proofs.YtakmlbnjgkfaiaaDoor
