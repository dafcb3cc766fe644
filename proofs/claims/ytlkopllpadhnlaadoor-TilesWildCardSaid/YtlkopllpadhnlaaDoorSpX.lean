/- A slice of texts that came in, with the room behind it: each is no longer than the form lets a text be. -/
import Derived.Test.YtlkopllpadhnlaaDoorTx
import Derived.Test.YtlkopllpadhnlaaDoorTrA
namespace Go.Proofs.YtlkopllpadhnlaaDoor
open Go Go.ChangeShapes Go.WideShapes Go.ChangeAt Go.RowKit Go.ChangeMaps

set_option maxRecDepth 100000 in
theorem texts_all {H : Type} {enc : TypeId × Value → H} {W : World} {base : Nat} {v : Value} {d : DataW H} {p : List MemPlace} {ts : List TypeId} {ds : List (DataW H)} {j : Nat}
    (hv : Value.okWide Tryd.prog W .any base 36 v) (h : DataW.Trod enc Tryd.prog W 0 (fun _ => true) true 36 v d p)
    (hz : (DataW.weightsEach Tryd.prog ts ds).all (· ≤ reachBytes) = true) (ht : ts[j]? = some 36) (hd : ds[j]? = some d) :
    ∃ (a : Option Addr) (ps : List ByteArray) (cap : Nat), v = .slice a ps.length cap ∧ PA W a ps.length cap ps ∧ ∀ s ∈ ps, s.size ≤ 140737488351232 := by
  obtain ⟨a, ps, cap, e, hp, h1, h2, _, hs⟩ := texts_open hv h hz ht hd
  refine ⟨a, ps, cap, e, ⟨rfl, h1, by unfold maxLen at h2; omega, fun h0 => ?_⟩, hs⟩
  obtain ⟨a2, c2, e2, hh⟩ := hp.ex
  cases e2
  exact hh h0
end Go.Proofs.YtlkopllpadhnlaaDoor
