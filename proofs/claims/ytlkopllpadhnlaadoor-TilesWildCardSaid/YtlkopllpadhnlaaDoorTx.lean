/- A slice of texts that came in: each is no longer than the form lets a text be. -/
import Derived.SliceStrings
import Derived.SizedLaws
import Derived.OpenShut
import Derived.ChangeMaps5
import Derived.Test.YtlkopllpadhnlaaDoorShaH
namespace Go.Proofs.YtlkopllpadhnlaaDoor
open Go Go.ChangeShapes Go.WideShapes Go.ChangeAt Go.RowKit Go.ChangeMaps

theorem weights_strs {H : Type} (P : Program) (e : TypeId) : ∀ (l : List ByteArray) (s : ByteArray), s ∈ l → s.data.toList.length ∈ DataW.weightsAll (H := H) P e (strs l)
  | [], s, h => by cases h
  | x :: l, s, h => by
    show _ ∈ DataW.weights P e (.lit (.string x.data.toList)) ++ DataW.weightsAll P e (strs l)
    rw [List.mem_append]
    rcases List.mem_cons.1 h with rfl | h
    · exact .inl (by simp [DataW.weights])
    · exact .inr (weights_strs P e l s h)
set_option maxRecDepth 100000 in
theorem texts_open {H : Type} {enc : TypeId × Value → H} {W : World} {base : Nat} {v : Value} {d : DataW H} {p : List MemPlace} {ts : List TypeId} {ds : List (DataW H)} {j : Nat}
    (hv : Value.okWide Tryd.prog W .any base 36 v) (h : DataW.Trod enc Tryd.prog W 0 (fun _ => true) true 36 v d p)
    (hz : (DataW.weightsEach Tryd.prog ts ds).all (· ≤ reachBytes) = true) (ht : ts[j]? = some 36) (hd : ds[j]? = some d) :
    ∃ (a : Option Addr) (ps : List ByteArray) (cap : Nat), v = .slice a ps.length cap ∧ PartsAt W (.slice a ps.length cap) ps ∧ ps.length ≤ cap ∧ cap ≤ maxLen ∧ (a = none → cap = 0) ∧ ∀ s ∈ ps, s.size ≤ 140737488351232 := by
  obtain ⟨a0, l0, c0, rfl⟩ := okWide_slice Tryd.underlying36 hv
  obtain ⟨fuel, hf⟩ := h
  rcases open_strings Tryd.underlying36 Tryd.underlying9 (by kernel_rfl) hf with ⟨hcs, hx⟩ | ⟨a, len, cap, ss, hcs, _, hl, hm, hlen, hx, hcell, hsz⟩
  · simp [Value.cells] at hcs
    obtain ⟨rfl, rfl, rfl⟩ := hcs
    exact ⟨none, [], 0, rfl, ⟨none, 0, rfl, fun h => absurd h (Nat.lt_irrefl 0)⟩, Nat.le_refl _, Nat.zero_le _, fun _ => rfl, fun s hs => by cases hs⟩
  · simp [Value.cells] at hcs
    obtain ⟨rfl, rfl, rfl⟩ := hcs
    simp only [if_true] at hlen
    have hde : d = _ := congrArg Prod.fst hx
    subst hde
    have hpl : (ss.take l0).length = l0 := by rw [List.length_take]; omega
    refine ⟨some a, ss.take l0, c0, by rw [hpl], ⟨some a, c0, rfl, fun h0 => ?_⟩, by omega, hm, fun e => (by cases e), fun s hs => ?_⟩
    · rw [hpl] at h0
      have hc0 := hcell 0 (by omega)
      obtain ⟨blk, off, spot⟩ := a
      have hspot : spot = none := by simpa [Addr.add] using World.cell?_spot hc0
      subst hspot
      refine ⟨blk, off, rfl, by simpa [Addr.add] using World.block_lt_of_cell? W _ hc0, fun i hi => ?_⟩
      rw [hpl] at hi
      have hci := hcell i (by omega)
      have hadd : (⟨blk, off, none⟩ : Addr).add i = ⟨blk, off + i, none⟩ := by
        unfold Addr.add
        split
        · next h => subst h; rfl
        · rfl
      rw [hadd] at hci
      rw [hci]
      simp [List.getD, hi]
    · have h1 := DataW.weights_mem_each (P := Tryd.prog) ht hd s.data.toList.length (by
        simp only [DataW.weights, Tryd.underlying36, List.mem_cons, List.mem_append]
        exact .inr (.inl (weights_strs Tryd.prog 9 _ s hs)))
      have h2 := List.all_eq_true.1 hz _ h1
      have h3 : s.data.toList.length ≤ reachBytes := by simpa using h2
      rw [data_len] at h3
      unfold reachBytes at h3
      omega
end Go.Proofs.YtlkopllpadhnlaaDoor
