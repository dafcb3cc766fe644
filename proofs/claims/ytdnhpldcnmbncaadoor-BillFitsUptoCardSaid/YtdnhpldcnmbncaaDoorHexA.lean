/- Walk of sha.Hex. -/
import Derived.Test.YtdnhpldcnmbncaaDoorShaA
import Derived.Test.YtdnhpldcnmbncaaDoorShaH
import Derived.Test.YtdnhpldcnmbncaaDoorQv
namespace Go.Proofs.YtdnhpldcnmbncaaDoor
open Go.RowKit

def digit (n : Nat) : UInt8 := if n < 10 then UInt8.ofNat (48 + n) else UInt8.ofNat (87 + n)
def hexB (x : UInt8) : List UInt8 := [digit (x.toNat / 16), digit (x.toNat % 16)]
def hexL (l : List UInt8) : List UInt8 := l.flatMap hexB
def hexLit : ByteArray := { data := #[48, 49, 50, 51, 52, 53, 54, 55, 56, 57, 97, 98, 99, 100, 101, 102] }
theorem hexLit_get (n : Nat) (h : n < hexLit.size) : hexLit[n] = digit n := by
  have : ∀ n : Fin 16, hexLit[n.val]'(n.isLt) = digit n.val := by decide
  exact this ⟨n, h⟩
theorem get_take (s : ByteArray) (i : Nat) (h : i < s.size) : s.data.toList.take (i + 1) = s.data.toList.take i ++ [s[i]] := by
  rw [List.take_succ_eq_append_getElem (by simpa using h)]; rfl
theorem hexL_snoc (l : List UInt8) (x d1 d2 : UInt8) (h1 : digit (x.toNat / 16) = d1) (h2 : digit (x.toNat % 16) = d2) : (hexL (l ++ [x])).map yc = (hexL l).map yc ++ [Value.int .u8 (d1.toNat : Int), Value.int .u8 (d2.toNat : Int)] := by
  subst h1 h2
  simp [hexL, hexB, List.flatMap_append, yc, Y]
theorem hexL_length (l : List UInt8) : (hexL l).length = 2 * l.length := by
  induction l with
  | nil => rfl
  | cons x l ih =>
    show (hexB x ++ hexL l).length = _
    rw [List.length_append, ih]; simp [hexB]; omega
/-- A row of bytes that the call owns, as a text. -/
theorem own_text {w : World} {base : Nat} {v : Value} {l : List UInt8} (h : w.ownsRow base 5 1 v l.length (l.map yc)) :
    (convert 43 9 v).run Tryd.prog w = .ok (.string ⟨l.toArray⟩) w := by
  obtain ⟨hl, ⟨rfl, hx⟩ | ⟨g, cap, cur, rfl, hg, hh, hn, _, hsz, hcur⟩⟩ := h
  · have hl0 : l = [] := by simpa using hx
    subst hl0
    exact run_convert_bytes_nil (P := Tryd.prog) w 43 5 Tryd.underlying43 Tryd.underlying5 _ _ 9 Tryd.underlying9
  · have hlen : cur.toList.length = cap := by rw [Array.length_toList, hsz]; omega
    have hc : ∀ i, i < l.length → w.cell? ⟨g, 0 + i, none⟩ = some (.int .u8 ((l.map Y).getD i 0)) := by
      intro i hi
      have h1 : (cur.toList.take (l.length * 1))[i]? = (l.map yc)[i]? := by rw [hcur]
      rw [List.getElem?_take_of_lt (by omega), List.getElem?_map] at h1
      rw [Nat.zero_add, cell_of_row w g i cur _ _ hh, ← Array.getElem?_toList, h1]
      simp [hi, yc, List.getD]
    have := run_convert_bytes_arg (P := Tryd.prog) w 43 5 Tryd.underlying43 Tryd.underlying5 g 0 l.length cap (l.map Y) (by simp) hc 9 Tryd.underlying9
    rw [Y_back] at this; exact this
theorem info5 : (Tryd.prog.info? 5).map (fun i => (i.zero, i.size, i.bytes)) = some (some (.int .u8 0), 1, 1) := by kernel_rfl

end Go.Proofs.YtdnhpldcnmbncaaDoor
