/- Walks of the document's Sum and Tag over parts, and of sha.Tag. -/
import Derived.Test.YtdnhpldcnmbncaaDoorRefC
import Derived.Test.YtdnhpldcnmbncaaDoorShaH
import Derived.Lib.AppendStr
namespace Go.Proofs.YtdnhpldcnmbncaaDoor
open Go.RowKit

/-- Append of a text to a row of bytes that the call owns. -/
theorem wpList_pushS {w w0 : World} {ops : Array Oper} {rest : List Oper} {o : Oper} {a : Act} {Q : Exit → Act → World → Prop} (hgd : o.guard = none) (s x : Operand)
    (ho : o.op = .call { callee := .builtin .append, args := #[s, x], argTypes := #[43, 9] }) (base : Nat) (v : Value) (l : List UInt8) (hs : a.eval s = v)
    (hO : Box (w.ownsRow base 5 1 v l.length (l.map yc))) (str : ByteArray) (hx : a.eval x = .string str)
    (hlen : l.length + str.size ≤ 140737488355328) (hbase : base ≤ w.heap.size) (hB : Box (Below base w0 w))
    (h : ∀ v' w', Box (w'.ownsRow base 5 1 v' (l ++ str.data.toList).length ((l ++ str.data.toList).map yc)) → Box (Below base w0 w') → wpList Tryd.prog ops Q rest (a.put o.dst v') w') : wpList Tryd.prog ops Q (o :: rest) a w := by
  obtain ⟨i0, hi, hz0, hz1, hz2⟩ := info_parts info5
  refine Lib.wpList_append_own_string _ hgd s x 43 9 ho base 5 i0 Tryd.underlying43 Tryd.underlying9 hi hz0 hz1 hz2 v l.length _ hs hO.out str hx (by unfold maxLen; omega) (by omega) hbase ?_
  intro v' w' h2 h3 _
  refine h v' w' ⟨?_⟩ ⟨hB.out.grown h3 hbase (fun k hk => (hO.out.lt k hk).1)⟩
  rw [List.length_append, data_len, List.map_append]; exact h2

theorem flat_len_take (ps : List ByteArray) (i : Nat) (h : i < ps.length) : (flat (ps.take i)).length ≤ (flat ps).length := by
  have := flat_part ps i h; omega

set_option maxHeartbeats 800000 in
set_option maxRecDepth 100000 in
theorem rsum_none (a : Option Addr) (cap : Nat) (w : World) :
    Calls Tryd.prog 33 #[.slice a 0 cap] w fun e w' => e = .returned (.string (hashOf [])) ∧ Below w.heap.size w w' := by
  have hH := rhash_any w.heap.size w w (.slice none 0 0) [] ⟨World.ownsRow_nil _ _ _ _⟩ ⟨Below.refl _ _⟩ (Nat.le_refl _) (by simp)
  go_enter Tryd.func33, Tryd.ntmps33
  go_wp2_with fail
  go_loopw [3, 4] (fun s3 q wr => s3 = .slice none 0 0 ∧ q = .int .i64 0 ∧ Box (w = wr)) (fun _ _ _ => 0)
  case atStart => exact ⟨rfl, rfl, ⟨rfl⟩⟩
  case round =>
    obtain ⟨rfl, rfl, hw⟩ := hrel
    rw [hw.out] at hH
    go_wp2_with (go_at_call 61; refine hH.mono ?_; rintro e w' ⟨rfl, hb⟩)
    go_returns
    rw [hw.out]
    exact ⟨rfl, hb.out⟩
set_option maxHeartbeats 800000 in
set_option maxRecDepth 100000 in
theorem rsum_some (blk off cap : Nat) (ps : List ByteArray) (w : World) (hlt : blk < w.heap.size) (hc : ∀ i, i < ps.length → w.cell? ⟨blk, off + i, none⟩ = some (.string (ps.getD i ByteArray.empty)))
    (hsz : (flat ps).length ≤ 140737488354800) (hps : ps.length ≤ 4611686018427387904) :
    Calls Tryd.prog 33 #[.slice (some ⟨blk, off, none⟩) ps.length cap] w fun e w' => e = .returned (.string (hashOf (flat ps))) ∧ Below w.heap.size w w' := by
  have hO0 : Box (w.ownsRow w.heap.size 5 1 (.slice none 0 0) (flat (ps.take 0)).length ((flat (ps.take 0)).map yc)) := ⟨World.ownsRow_nil _ _ _ _⟩
  have hB0 : Box (Below w.heap.size w w) := ⟨Below.refl _ _⟩
  replace hc := Box.mk hc
  go_enter Tryd.func33, Tryd.ntmps33
  go_wp2_with fail
  go_loopw [3, 4] (fun s3 q wr => ∃ i : Nat, i ≤ ps.length ∧ q = .int .i64 i ∧ Box (wr.ownsRow w.heap.size 5 1 s3 (flat (ps.take i)).length ((flat (ps.take i)).map yc)) ∧ Box (Below w.heap.size w wr)) (fun _ q _ => ps.length - (intOf q).toNat)
  case atStart => exact ⟨0, by omega, rfl, hO0, hB0⟩
  case round =>
    clear hO0 hB0
    obtain ⟨i, hi, rfl, hO, hB⟩ := hrel
    by_cases hlt2 : i < ps.length
    · have hcell : wr.cell? ⟨blk, off + i, none⟩ = some (.string (ps.getD i ByteArray.empty)) := by
        rw [hB.out.cell (p := ⟨blk, off + i, none⟩) hlt]; exact hc.out i hlt2
      obtain ⟨s, hs⟩ : ∃ s, ps.getD i ByteArray.empty = s := ⟨_, rfl⟩
      have hstep := flat_step ps i hlt2
      have hpart := flat_part ps i hlt2
      rw [hs] at hcell hstep hpart
      have hcap : Box ((flat (ps.take i)).length + s.size ≤ 140737488355328) := ⟨by omega⟩
      replace hstep := Box.mk hstep
      replace hpart := Box.mk hpart
      clear hs
      go_wp2_with (refine wpList_pushS rfl (.tmp 11) (.tmp 15) rfl w.heap.size _ (flat (ps.take i)) rfl hO s rfl hcap.out hB.out.size hB ?_; intro v2 w2 hO2 hB2)
      rw [hstep.out] at hO2
      have hm : ps.length - (intOf (Value.int IntKind.i64 (↑i + 1))).toNat < ps.length - (intOf (Value.int IntKind.i64 ↑i)).toNat := by simp [intOf]; omega
      exact ⟨⟨i + 1, by omega, by go_num, hO2, hB2⟩, hm⟩
    · obtain rfl : i = ps.length := by omega
      rw [List.take_length] at hO
      have hH := fun v (hO : Box (wr.ownsRow w.heap.size 5 1 v (flat ps).length ((flat ps).map yc))) => rhash_any w.heap.size w wr v (flat ps) hO hB (Nat.le_refl _) hsz
      go_wp2_with fail
      refine (hH _ hO).mono ?_
      rintro e w' ⟨rfl, hb⟩
      clear hH
      go_wp2_with fail
      go_returns
      exact ⟨rfl, hb.out⟩
theorem rsum_parts (v : Value) (ps : List ByteArray) (w : World) (hv : PartsAt w v ps) (hsz : (flat ps).length ≤ 140737488354800) (hps : ps.length ≤ 4611686018427387904) :
    Calls Tryd.prog 33 #[v] w fun e w' => e = .returned (.string (hashOf (flat ps))) ∧ Below w.heap.size w w' := by
  obtain ⟨a, cap, rfl, h⟩ := hv.ex
  by_cases h0 : 0 < ps.length
  · obtain ⟨blk, off, rfl, hlt, hc⟩ := h h0
    exact rsum_some blk off cap ps w hlt hc hsz hps
  · obtain rfl : ps = [] := List.length_eq_zero_iff.1 (by omega)
    exact rsum_none a cap w
end Go.Proofs.YtdnhpldcnmbncaaDoor
