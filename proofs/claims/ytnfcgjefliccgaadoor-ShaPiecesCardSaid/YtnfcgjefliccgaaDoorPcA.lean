/- What the law ShaPieces keeps: a digest from New, a zero digest, the parts so far; and what each call leaves of it. -/
import Derived.Deep.RegionWith
import Derived.Test.YtnfcgjefliccgaaDoorHas
import Derived.Test.YtnfcgjefliccgaaDoorRefB
namespace Go.Proofs.YtnfcgjefliccgaaDoor
open Go.RowKit

def tk (T : ByteArray) (a : Nat) : List UInt8 := T.data.toList.take a
/-- The digest in block bd was handed md, the one in bz mz; v is a slice of the texts ps; below w0's size all is as in w0. -/
structure Env (bd bz : Nat) (w0 : World) (md mz : List UInt8) (v : Value) (ps : List ByteArray) (w : World) : Prop where
  d : DigIs w bd md
  z : DigIs w bz mz
  k : KIs w
  b : Below w0.heap.size w0 w
  ne : bd ≠ bz
  ld : w0.heap.size ≤ bd
  lz : w0.heap.size ≤ bz
  kl : 0 < w0.heap.size
  own : w.ownsRow w0.heap.size 9 1 v ps.length (ps.map Value.string)

theorem row_kept {w w' : World} {B : Nat} {e : TypeId} {v : Value} {n : Nat} {xs : List Value} (h : w.ownsRow B e 1 v n xs) (hk : ∀ k, v.ownBlock = some k → w'.heap[k]? = w.heap[k]?) : w'.ownsRow B e 1 v n xs := by
  obtain ⟨h1, h0 | ⟨g, cap, cur, rfl, a1, hg, a2⟩⟩ := h
  · exact ⟨h1, .inl h0⟩
  · exact ⟨h1, .inr ⟨g, cap, cur, rfl, a1, (hk g rfl).trans hg, a2⟩⟩
theorem row_apart {w : World} {B : Nat} {e : TypeId} {v : Value} {n : Nat} {xs : List Value} {b : Nat} {cs : List Value} {t : TypeId} (h : w.ownsRow B e 1 v n xs) (hb : Blk w b cs t) (ht : t ≠ e) : v.ownBlock ≠ some b := by
  intro e
  obtain ⟨_, ⟨rfl, h0⟩ | ⟨g, cap, cur, rfl, _, hg, _⟩⟩ := h
  · cases e
  · obtain rfl : g = b := by simpa [Value.ownBlock] using e
    unfold Blk at hb
    rw [hg] at hb
    simp at hb
    exact ht hb.2.symm
theorem DigIs.blk {w : World} {b : Nat} {m : List UInt8} (h : DigIs w b m) : ∃ cs, Blk w b cs 34 := by
  obtain ⟨cs, hB, _⟩ := h.cells
  exact ⟨cs, hB⟩
theorem DigIs.save {w w' : World} {b c : Nat} {m : List UInt8} (h : DigIs w b m) (hs : Save w.heap.size c w w') (hn : b ≠ c) : DigIs w' b m := by
  obtain ⟨cs, hB, _, _, hA⟩ := h.cells
  exact hA.out _ _ (hB.save hs hB.lt hn)
theorem DigIs.grown {w w' : World} {b : Nat} {m : List UInt8} {row : Option Nat} (h : DigIs w b m) (hg : w.grownBy w' row) (hn : row ≠ some b) : DigIs w' b m := by
  obtain ⟨cs, hB, _, _, hA⟩ := h.cells
  exact hA.out _ _ ((hg.block b hB.lt (fun e => hn e.symm)).trans hB)

section
variable {bd bz : Nat} {w0 w w' : World} {md mz : List UInt8} {v : Value} {ps : List ByteArray}
theorem Env.below (h : Env bd bz w0 md mz v ps w) (hb : Below w.heap.size w w') : Env bd bz w0 md mz v ps w' :=
  ⟨h.d.below hb, h.z.below hb, h.k.below hb h.k.lt, h.b.trans (hb.mono h.b.size), h.ne, h.ld, h.lz, h.kl, row_kept h.own fun k hk => hb.block k (h.own.lt k hk).2⟩
theorem Env.drew (h : Env bd bz w0 md mz v ps w) : Env bd bz w0 md mz v ps w.drew := h.below (Drawn.below ⟨1, rfl⟩)
theorem Env.alloc (h : Env bd bz w0 md mz v ps w) (o : Obj) : Env bd bz w0 md mz v ps (w.alloc o) := h.below ((Below.refl _ _).alloc (Nat.le_refl _) o)
theorem Env.sum_d (h : Env bd bz w0 md mz v ps w) (hs : md.length ≤ 1152921504606846976) :
    Calls Tryd.prog 16 #[.pointer (some ⟨bd, 0, none⟩)] w fun e w' => e = .returned (.string (hashOf md)) ∧ Env bd bz w0 md mz v ps w' ∧ Below w.heap.size w w' :=
  (sum_some bd md w h.d h.k hs).mono fun _ _ ⟨he, hb⟩ => ⟨he, h.below hb, hb⟩
theorem Env.sum_z (h : Env bd bz w0 md mz v ps w) (hs : mz.length ≤ 1152921504606846976) :
    Calls Tryd.prog 16 #[.pointer (some ⟨bz, 0, none⟩)] w fun e w' => e = .returned (.string (hashOf mz)) ∧ Env bd bz w0 md mz v ps w' ∧ Below w.heap.size w w' :=
  (sum_some bz mz w h.z h.k hs).mono fun _ _ ⟨he, hb⟩ => ⟨he, h.below hb, hb⟩
theorem Env.sum_parts (h : Env bd bz w0 md mz v ps w) (u : Value) (qs : List ByteArray) (hu : PartsAt w u qs) (hs : (flat qs).length ≤ 1152921504606846976) (hq : qs.length ≤ 4611686018427387904) :
    Calls Tryd.prog 9 #[u] w fun e w' => e = .returned (.string (hashOf (flat qs))) ∧ Env bd bz w0 md mz v ps w' :=
  (Go.Proofs.YtnfcgjefliccgaaDoor.sum_parts u qs w hu h.k hs hq).mono fun _ _ ⟨he, hb⟩ => ⟨he, h.below hb⟩
theorem Env.add_d (h : Env bd bz w0 md mz v ps w) (s : ByteArray) (hs : md.length + s.size ≤ 4611686018427387904) :
    Calls Tryd.prog 14 #[.pointer (some ⟨bd, 0, none⟩), .string s] w fun e w' => e = .returned (.tuple #[]) ∧ Env bd bz w0 (md ++ s.data.toList) mz v ps w' :=
  (add_any bd md s w h.d h.k hs).mono fun _ w' ⟨he, hD, hK, hS⟩ => ⟨he, ⟨hD, h.z.save hS.out (Ne.symm h.ne), hK, h.b.trans ((hS.out.mono h.b.size).below h.ld), h.ne, h.ld, h.lz, h.kl, row_kept h.own fun k hk => by
    obtain ⟨cs, hB⟩ := h.d.blk
    exact hS.out.block k (h.own.lt k hk).2 fun e => row_apart h.own hB (by decide) (by rw [hk, e])⟩⟩
theorem Env.add_z (h : Env bd bz w0 md mz v ps w) (s : ByteArray) (hs : mz.length + s.size ≤ 4611686018427387904) :
    Calls Tryd.prog 14 #[.pointer (some ⟨bz, 0, none⟩), .string s] w fun e w' => e = .returned (.tuple #[]) ∧ Env bd bz w0 md (mz ++ s.data.toList) v ps w' :=
  (add_any bz mz s w h.z h.k hs).mono fun _ w' ⟨he, hD, hK, hS⟩ => ⟨he, ⟨h.d.save hS.out h.ne, hD, hK, h.b.trans ((hS.out.mono h.b.size).below h.lz), h.ne, h.ld, h.lz, h.kl, row_kept h.own fun k hk => by
    obtain ⟨cs, hB⟩ := h.z.blk
    exact hS.out.block k (h.own.lt k hk).2 fun e => row_apart h.own hB (by decide) (by rw [hk, e])⟩⟩
theorem Env.grown {v' : Value} {ps' : List ByteArray} (h : Env bd bz w0 md mz v ps w) (hg : w.grownBy w' v.ownBlock) (hO : w'.ownsRow w0.heap.size 9 1 v' ps'.length (ps'.map Value.string)) : Env bd bz w0 md mz v' ps' w' := by
  obtain ⟨cd, hd⟩ := h.d.blk
  obtain ⟨cz, hz⟩ := h.z.blk
  refine ⟨h.d.grown hg (row_apart h.own hd (by decide)), h.z.grown hg (row_apart h.own hz (by decide)), ?_, h.b.grown hg h.b.size (fun k hk => (h.own.lt k hk).1), h.ne, h.ld, h.lz, h.kl, hO⟩
  intro i hi
  have h1 := h.k i hi
  rw [← h1]
  refine World.cell?_of_block (hg.block _ h.k.lt fun e => ?_)
  obtain ⟨_, ⟨rfl, h0⟩ | ⟨g, cap, cur, rfl, hge, hgg, hn, _, hcs, htk⟩⟩ := h.own
  · cases e
  · obtain rfl : 0 = g := by simpa [Value.ownBlock] using e
    have h2 := h.kl
    omega
theorem Env.parts (h : Env bd bz w0 md mz v ps w) : PartsAt w v ps := by
  obtain ⟨hl, ⟨rfl, h0⟩ | ⟨g, cap, cur, rfl, hge, hgg, hn, hm, hcs, htk⟩⟩ := h.own
  · exact ⟨⟨none, 0, by rw [h0], fun h1 => by omega⟩⟩
  · refine ⟨⟨some ⟨g, 0, none⟩, cap, rfl, fun _ => ⟨g, 0, rfl, (Array.getElem?_eq_some_iff.1 hgg).1, fun i hi => ?_⟩⟩⟩
    have := World.ownsRow.cells (g := g) (⟨hl, .inr ⟨g, cap, cur, rfl, hge, hgg, hn, hm, hcs, htk⟩⟩ : w.ownsRow w0.heap.size 9 1 (.slice (some ⟨g, 0, none⟩) ps.length cap) ps.length (ps.map Value.string)) rfl i (.string (ps.getD i ByteArray.empty)) (by simp [List.getD, hi])
    have hadd : (⟨g, 0, none⟩ : Addr).add i = ⟨g, i, none⟩ := by unfold Addr.add; split <;> simp_all
    rw [hadd] at this
    rw [Nat.zero_add]; exact this
theorem Env.wpList_part {ops : Array Oper} {rest : List Oper} {o : Oper} {a : Act} {Q : Exit → Act → World → Prop} (hgd : o.guard = none) (s x : Operand)
    (ho : o.op = .call { callee := .builtin .append, args := #[s, x], argTypes := #[22, 22] }) (hs : a.eval s = v) (h : Env bd bz w0 md mz v ps w) (g : Nat) (t : ByteArray)
    (hx : a.eval x = .slice (some ⟨g, 0, none⟩) 1 1) (hn : w.cell? ⟨g, 0, none⟩ = some (.string t)) (hps : ps.length ≤ 100)
    (k : ∀ v' w', Env bd bz w0 md mz v' (ps ++ [t]) w' → wpList Tryd.prog ops Q rest (a.put o.dst v') w') : wpList Tryd.prog ops Q (o :: rest) a w := by
  obtain ⟨i0, hi, hz0, hz1, hz2⟩ := info_parts (show (Tryd.prog.info? 9).map (fun i => (i.zero, i.size, i.bytes)) = some (some (.string ByteArray.empty), 1, 16) by kernel_rfl)
  refine wpList_append_own _ hgd s x 22 ho w0.heap.size 9 i0 (.string ByteArray.empty) 1 16 Tryd.underlying22 hi hz0 hz1 hz2 rfl (by decide) v ps.length _ hs h.own ⟨g, 0, none⟩ 1 1 [.string t] hx rfl
    (fun j u hj => ?_) (fun u hu => ?_) (by unfold maxLen; omega) (by omega) h.b.size ?_
  · match j, hj with
    | 0, hj =>
      simp at hj
      subst hj
      exact hn
  · simp at hu; subst hu; rfl
  · intro v' w' h2 h3 _
    refine k v' w' (h.grown h3 ?_)
    rw [List.length_append, List.map_append]
    exact h2
/-- .. and another digest, in block bo, was handed mo. -/
structure EnvO (bd bz : Nat) (w0 : World) (md mz : List UInt8) (v : Value) (ps : List ByteArray) (bo : Nat) (mo : List UInt8) (w : World) : Prop where
  e : Env bd bz w0 md mz v ps w
  o : DigIs w bo mo
  nd : bo ≠ bd
  nz : bo ≠ bz
  lo : w0.heap.size ≤ bo
variable {bo : Nat} {mo : List UInt8}
theorem EnvO.below (h : EnvO bd bz w0 md mz v ps bo mo w) (hb : Below w.heap.size w w') : EnvO bd bz w0 md mz v ps bo mo w' := ⟨h.e.below hb, h.o.below hb, h.nd, h.nz, h.lo⟩
theorem EnvO.drew (h : EnvO bd bz w0 md mz v ps bo mo w) : EnvO bd bz w0 md mz v ps bo mo w.drew := h.below (Drawn.below ⟨1, rfl⟩)
theorem EnvO.alloc (h : EnvO bd bz w0 md mz v ps bo mo w) (o : Obj) : EnvO bd bz w0 md mz v ps bo mo (w.alloc o) := h.below ((Below.refl _ _).alloc (Nat.le_refl _) o)
theorem Env.copy (h : Env bd bz w0 md mz v ps w) :
    Calls Tryd.prog 15 #[.pointer (some ⟨bd, 0, none⟩)] w fun e w' => ∃ bo, e = .returned (.pointer (some ⟨bo, 0, none⟩)) ∧ EnvO bd bz w0 md mz v ps bo md w' :=
  (copy_some bd md w h.d).mono fun _ _ ⟨he, hD, hb⟩ => ⟨w.heap.size, he, h.below hb, hD, Nat.ne_of_gt h.d.lt, Nat.ne_of_gt h.z.lt, h.b.size⟩
theorem EnvO.sum_d (h : EnvO bd bz w0 md mz v ps bo mo w) (Hh : ByteArray) (hH : Box (hashOf md = Hh)) (hs : md.length ≤ 1152921504606846976) :
    Calls Tryd.prog 16 #[.pointer (some ⟨bd, 0, none⟩)] w fun e w' => e = .returned (.string Hh) ∧ Box (EnvO bd bz w0 md mz v ps bo mo w') ∧ Box (Below w.heap.size w w') :=
  (sum_some bd md w h.e.d h.e.k hs).mono fun _ _ ⟨he, hb⟩ => ⟨by rw [← hH.out]; exact he, ⟨h.below hb⟩, ⟨hb⟩⟩
theorem EnvO.sum_o (h : EnvO bd bz w0 md mz v ps bo mo w) (Hh : ByteArray) (hH : Box (hashOf mo = Hh)) (hs : mo.length ≤ 1152921504606846976) :
    Calls Tryd.prog 16 #[.pointer (some ⟨bo, 0, none⟩)] w fun e w' => e = .returned (.string Hh) ∧ Box (EnvO bd bz w0 md mz v ps bo mo w') ∧ Box (Below w.heap.size w w') :=
  (sum_some bo mo w h.o h.e.k hs).mono fun _ _ ⟨he, hb⟩ => ⟨by rw [← hH.out]; exact he, ⟨h.below hb⟩, ⟨hb⟩⟩
theorem EnvO.sum_parts (h : EnvO bd bz w0 md mz v ps bo mo w) (u : Value) (qs : List ByteArray) (hu : PartsAt w u qs) (Hh : ByteArray) (hH : Box (hashOf (flat qs) = Hh)) (hs : (flat qs).length ≤ 1152921504606846976) (hq : qs.length ≤ 4611686018427387904) :
    Calls Tryd.prog 9 #[u] w fun e w' => e = .returned (.string Hh) ∧ Box (EnvO bd bz w0 md mz v ps bo mo w') :=
  (Go.Proofs.YtnfcgjefliccgaaDoor.sum_parts u qs w hu h.e.k hs hq).mono fun _ _ ⟨he, hb⟩ => ⟨by rw [← hH.out]; exact he, ⟨h.below hb⟩⟩
theorem EnvO.add_o (h : EnvO bd bz w0 md mz v ps bo mo w) (s : ByteArray) (hs : mo.length + s.size ≤ 4611686018427387904) :
    Calls Tryd.prog 14 #[.pointer (some ⟨bo, 0, none⟩), .string s] w fun e w' => e = .returned (.tuple #[]) ∧ EnvO bd bz w0 md mz v ps bo (mo ++ s.data.toList) w' :=
  (add_any bo mo s w h.o h.e.k hs).mono fun _ w' ⟨he, hD, hK, hS⟩ => ⟨he, ⟨⟨h.e.d.save hS.out (Ne.symm h.nd), h.e.z.save hS.out (Ne.symm h.nz), hK, h.e.b.trans ((hS.out.mono h.e.b.size).below h.lo), h.e.ne, h.e.ld, h.e.lz, h.e.kl, row_kept h.e.own fun k hk => by
    obtain ⟨cs, hB⟩ := h.o.blk
    exact hS.out.block k (h.e.own.lt k hk).2 fun e => row_apart h.e.own hB (by decide) (by rw [hk, e])⟩, hD, h.nd, h.nz, h.lo⟩⟩
theorem EnvO.len_d (h : EnvO bd bz w0 md mz v ps bo mo w) :
    Calls Tryd.prog 17 #[.pointer (some ⟨bd, 0, none⟩)] w fun e w' => e = .returned (.int .i64 (md.length : Int)) ∧ w = w' := len_some bd md w h.e.d
theorem EnvO.len_o (h : EnvO bd bz w0 md mz v ps bo mo w) :
    Calls Tryd.prog 17 #[.pointer (some ⟨bo, 0, none⟩)] w fun e w' => e = .returned (.int .i64 (mo.length : Int)) ∧ w = w' := len_some bo mo w h.o
end
theorem parts_one {w : World} {g : Nat} {s : ByteArray} (hg : g < w.heap.size) (hc : w.cell? ⟨g, 0, none⟩ = some (.string s)) : PartsAt w (.slice (some ⟨g, 0, none⟩) 1 1) [s] :=
  ⟨some ⟨g, 0, none⟩, 1, rfl, fun _ => ⟨g, 0, rfl, hg, fun i hi => by obtain rfl : i = 0 := by simpa using hi
                                                                      exact hc⟩⟩
theorem parts_two {w : World} {g : Nat} {s r : ByteArray} (hg : g < w.heap.size) (hc : w.cell? ⟨g, 0, none⟩ = some (.string s)) (hc1 : w.cell? ⟨g, 1, none⟩ = some (.string r)) : PartsAt w (.slice (some ⟨g, 0, none⟩) 2 2) [s, r] :=
  ⟨some ⟨g, 0, none⟩, 2, rfl, fun _ => ⟨g, 0, rfl, hg, fun i hi => by
    match i, hi with
    | 0, _ => exact hc
    | 1, _ => exact hc1⟩⟩
section
variable {bd bz : Nat} {w0 w wa : World} {md mz : List UInt8} {v : Value} {ps : List ByteArray} {bo : Nat} {mo : List UInt8}
theorem EnvO.sum_new (h : EnvO bd bz w0 md mz v ps bo mo w) (t : ByteArray) (Hh : ByteArray) (hH : Box (hashOf (flat [t]) = Hh)) (hs : (flat [t]).length ≤ 1152921504606846976) :
    Calls Tryd.prog 9 #[.slice (some ⟨w.heap.size, 0, none⟩) 1 1] (w.alloc (.cells #[.string t] 9)) fun e w' => e = .returned (.string Hh) ∧ Box (EnvO bd bz w0 md mz v ps bo mo w') :=
  (h.alloc _).sum_parts _ [t] (parts_one (by simp) (by rw [World.cell?_alloc_at _ _ _ _ rfl]; rfl)) Hh hH hs (by simp)
theorem EnvO.sum_old (h : EnvO bd bz w0 md mz v ps bo mo w) (t : ByteArray) (hb : Box (Below (wa.alloc (.cells #[.string t] 9)).heap.size (wa.alloc (.cells #[.string t] 9)) w)) (Hh : ByteArray) (hH : Box (hashOf (flat [t]) = Hh)) (hs : (flat [t]).length ≤ 1152921504606846976) :
    Calls Tryd.prog 9 #[.slice (some ⟨wa.heap.size, 0, none⟩) 1 1] w fun e w' => e = .returned (.string Hh) ∧ Box (EnvO bd bz w0 md mz v ps bo mo w') := by
  have hlt : wa.heap.size < (wa.alloc (.cells #[.string t] 9)).heap.size := by simp
  refine h.sum_parts _ [t] (parts_one (Nat.lt_of_lt_of_le hlt hb.out.size) ?_) Hh hH hs (by simp)
  rw [hb.out.cell (p := ⟨wa.heap.size, 0, none⟩) hlt]
  rw [World.cell?_alloc_at _ _ _ _ rfl]; rfl
theorem EnvO.sum_new2 (h : EnvO bd bz w0 md mz v ps bo mo w) (t r : ByteArray) (Hh : ByteArray) (hH : Box (hashOf (flat [t, r]) = Hh)) (hs : (flat [t, r]).length ≤ 1152921504606846976) :
    Calls Tryd.prog 9 #[.slice (some ⟨w.heap.size, 0, none⟩) 2 2] (w.alloc (.cells #[.string t, .string r] 9)) fun e w' => e = .returned (.string Hh) ∧ Box (EnvO bd bz w0 md mz v ps bo mo w') :=
  (h.alloc _).sum_parts _ [t, r] (parts_two (by simp) (by rw [World.cell?_alloc_at _ _ _ _ rfl]; rfl) (by rw [World.cell?_alloc_at _ _ _ _ rfl]; rfl)) Hh hH hs (by simp)
theorem EnvO.sum_old2 (h : EnvO bd bz w0 md mz v ps bo mo w) (t r : ByteArray) (hb : Box (Below (wa.alloc (.cells #[.string t, .string r] 9)).heap.size (wa.alloc (.cells #[.string t, .string r] 9)) w)) (Hh : ByteArray) (hH : Box (hashOf (flat [t, r]) = Hh)) (hs : (flat [t, r]).length ≤ 1152921504606846976) :
    Calls Tryd.prog 9 #[.slice (some ⟨wa.heap.size, 0, none⟩) 2 2] w fun e w' => e = .returned (.string Hh) ∧ Box (EnvO bd bz w0 md mz v ps bo mo w') := by
  have hlt : wa.heap.size < (wa.alloc (.cells #[.string t, .string r] 9)).heap.size := by simp
  refine h.sum_parts _ [t, r] (parts_two (Nat.lt_of_lt_of_le hlt hb.out.size) ?_ ?_) Hh hH hs (by simp)
  · rw [hb.out.cell (p := ⟨wa.heap.size, 0, none⟩) hlt]
    rw [World.cell?_alloc_at _ _ _ _ rfl]; rfl
  · rw [hb.out.cell (p := ⟨wa.heap.size, 1, none⟩) hlt]
    rw [World.cell?_alloc_at _ _ _ _ rfl]; rfl
end
section
variable {bd bz : Nat} {w0 w : World} {md mz : List UInt8} {v : Value} {ps : List ByteArray}
theorem Env.sumd (h : Env bd bz w0 md mz v ps w) (Hh : ByteArray) (hH : Box (hashOf md = Hh)) (hs : md.length ≤ 1152921504606846976) :
    Calls Tryd.prog 16 #[.pointer (some ⟨bd, 0, none⟩)] w fun e w' => e = .returned (.string Hh) ∧ Box (Env bd bz w0 md mz v ps w') :=
  (h.sum_d hs).mono fun _ _ ⟨he, h', _⟩ => ⟨by rw [← hH.out]; exact he, ⟨h'⟩⟩
theorem Env.sumz (h : Env bd bz w0 md mz v ps w) (Hh : ByteArray) (hH : Box (hashOf mz = Hh)) (hs : mz.length ≤ 1152921504606846976) :
    Calls Tryd.prog 16 #[.pointer (some ⟨bz, 0, none⟩)] w fun e w' => e = .returned (.string Hh) ∧ Box (Env bd bz w0 md mz v ps w') :=
  (h.sum_z hs).mono fun _ _ ⟨he, h', _⟩ => ⟨by rw [← hH.out]; exact he, ⟨h'⟩⟩
theorem Env.sumnew (h : Env bd bz w0 md mz v ps w) (t : ByteArray) (Hh : ByteArray) (hH : Box (hashOf (flat [t]) = Hh)) (hs : (flat [t]).length ≤ 1152921504606846976) :
    Calls Tryd.prog 9 #[.slice (some ⟨w.heap.size, 0, none⟩) 1 1] (w.alloc (.cells #[.string t] 9)) fun e w' => e = .returned (.string Hh) ∧ Box (Env bd bz w0 md mz v ps w') :=
  ((h.alloc _).sum_parts _ [t] (parts_one (by simp) (by rw [World.cell?_alloc_at _ _ _ _ rfl]; rfl)) hs (by simp)).mono fun _ _ ⟨he, h'⟩ => ⟨by rw [← hH.out]; exact he, ⟨h'⟩⟩
theorem Env.sumps (h : Env bd bz w0 md mz v ps w) (Hh : ByteArray) (hH : Box (hashOf (flat ps) = Hh)) (hs : (flat ps).length ≤ 1152921504606846976) (hp : ps.length ≤ 100) :
    Calls Tryd.prog 9 #[v] w fun e w' => e = .returned (.string Hh) ∧ Box (Env bd bz w0 md mz v ps w') :=
  (h.sum_parts _ ps h.parts hs (by omega)).mono fun _ _ ⟨he, h'⟩ => ⟨by rw [← hH.out]; exact he, ⟨h'⟩⟩
end
theorem infoS : (Tryd.prog.info? 9).map (fun i => (i.zero, i.size, i.bytes)) = some (some (.string ByteArray.empty), 1, 16) := by kernel_rfl
def more : ByteArray := { data := #[109, 111, 114, 101] }

theorem tk_step (T : ByteArray) (a m : Nat) : tk T a ++ (T.extract a (a + m)).data.toList = tk T (a + m) := by
  rw [ByteArray.data_extract, Array.toList_extract, List.extract_eq_take_drop, tk, tk]
  rw [show a + m - a = m by omega, List.take_add]
theorem tk_len (T : ByteArray) (a : Nat) (h : a ≤ T.size) : (tk T a).length = a := by rw [tk, List.length_take, data_len]; omega
theorem flat_app (p q : List ByteArray) : flat (p ++ q) = flat p ++ flat q := by rw [flat, flat, flat, List.flatMap_append]
end Go.Proofs.YtnfcgjefliccgaaDoor
