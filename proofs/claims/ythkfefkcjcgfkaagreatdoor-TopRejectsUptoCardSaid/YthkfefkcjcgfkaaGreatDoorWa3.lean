/- More plain facts on the hash: what a row of rounds has come to. No program is named. | Walk of sha.mix: a block mixed into the state of a digest. | The last step of a law's row: a call that returned true and changed nothing that was there. No program is named. | The law for copy from a text into a row of cells known whole. No program is named. | Plain facts: what a digest holds of a text. -/
import Derived.WalkKit
import Derived.ProofKit
import Derived.OpenShut
import Derived.Carry
import Derived.Laws.CopyRow
import Derived.Test.YthkfefkcjcgfkaaGreatDoorWa1
import Derived.Test.YthkfefkcjcgfkaaGreatDoorWa2
set_option linter.all false
namespace Go.Proofs.YthkfefkcjcgfkaaGreatDoor
open Go.RowKit

/-- A fact in a box that nothing looks into. -/
structure Box (p : Prop) : Prop where
  out : p
/-- The second world is the first after some draws. -/
structure Drawn (w w' : World) : Prop where
  out : ∃ n, w' = w.drewN n
theorem Drawn.drewN {w w' : World} (h : Drawn w w') (n : Nat) : Drawn w (w'.drewN n) := by
  obtain ⟨m, rfl⟩ := h.out
  exact ⟨_, World.drewN_drewN _ _ _⟩
theorem Drawn.of2 (w : World) (n m : Nat) : Drawn w ((w.drewN n).drewN m) := ⟨_, World.drewN_drewN _ _ _⟩
theorem Drawn.blk {w w' : World} (h : Drawn w w') {b : Nat} {cs : List Value} {t : TypeId} (hb : Blk w b cs t) : Blk w' b cs t := by
  obtain ⟨m, rfl⟩ := h.out; exact hb
theorem Drawn.cell {w w' : World} (h : Drawn w w') (p : Addr) : w'.cell? p = w.cell? p := by
  obtain ⟨m, rfl⟩ := h.out; rfl
theorem Drawn.below {B : Nat} {w w' : World} (h : Drawn w w') : Below B w w' := by
  obtain ⟨m, rfl⟩ := h.out; exact ⟨rfl, rfl, rfl, Nat.le_refl _, fun _ _ => rfl⟩
theorem set8 {w : World} {b : Nat} {t0 : TypeId} {rest : List Value} (st : S8) (x0 x1 x2 x3 x4 x5 x6 x7 : BitVec 32) (h : Blk w b (st.cells ++ rest) t0) :
    Blk ((((((((w.setCell ⟨b, 0, none⟩ (.int .u32 (U x0))).setCell ⟨b, 1, none⟩ (.int .u32 (U x1))).setCell ⟨b, 2, none⟩ (.int .u32 (U x2))).setCell ⟨b, 3, none⟩ (.int .u32 (U x3))).setCell ⟨b, 4, none⟩ (.int .u32 (U x4))).setCell ⟨b, 5, none⟩ (.int .u32 (U x5))).setCell ⟨b, 6, none⟩ (.int .u32 (U x6))).setCell ⟨b, 7, none⟩ (.int .u32 (U x7)))
      b ((S8.mk x0 x1 x2 x3 x4 x5 x6 x7).cells ++ rest) t0 := by
  have := (((((((h.setCell 0 (.int .u32 (U x0))).setCell 1 (.int .u32 (U x1))).setCell 2 (.int .u32 (U x2))).setCell 3 (.int .u32 (U x3))).setCell 4 (.int .u32 (U x4))).setCell 5 (.int .u32 (U x5))).setCell 6 (.int .u32 (U x6))).setCell 7 (.int .u32 (U x7))
  simpa [S8.cells, S8.list] using this
theorem set8_save {w w0 : World} {b B : Nat} (h : Save B b w0 w) (x0 x1 x2 x3 x4 x5 x6 x7 : Value) :
    Save B b w0 ((((((((w.setCell ⟨b, 0, none⟩ x0).setCell ⟨b, 1, none⟩ x1).setCell ⟨b, 2, none⟩ x2).setCell ⟨b, 3, none⟩ x3).setCell ⟨b, 4, none⟩ x4).setCell ⟨b, 5, none⟩ x5).setCell ⟨b, 6, none⟩ x6).setCell ⟨b, 7, none⟩ x7) :=
  (((((((h.setCell (.inl rfl) _).setCell (.inl rfl) _).setCell (.inl rfl) _).setCell (.inl rfl) _).setCell (.inl rfl) _).setCell (.inl rfl) _).setCell (.inl rfl) _).setCell (.inl rfl) _
/-- These are a block's words. -/
structure SchedIs (l : List UInt8) (W : List (BitVec 32)) : Prop where
  eq : W = schedTo l 64
theorem SchedIs.len {l : List UInt8} {W : List (BitVec 32)} (h : SchedIs l W) : W.length = 64 := by rw [h.eq]; exact schedTo_length l 64

/-- After k rounds the eight words are these. -/
structure RoundsAre (W : List (BitVec 32)) (st : S8) (k : Nat) (a b c d e f g h : BitVec 32) : Prop where
  eq : rounds W st k = ⟨a, b, c, d, e, f, g, h⟩
theorem RoundsAre.zero (W : List (BitVec 32)) (st : S8) : RoundsAre W st 0 st.a st.b st.c st.d st.e st.f st.g st.h := ⟨rfl⟩
theorem RoundsAre.step {W : List (BitVec 32)} {st : S8} {k : Nat} {a b c d e f g h kt wt : BitVec 32} (H : RoundsAre W st k a b c d e f g h) (hk : Box (k64.getD k 0 = kt)) (hw : Box (W.getD k 0 = wt)) :
    RoundsAre W st (k + 1) (h + S1 e + ((e &&& f) ^^^ (~~~ e &&& g)) + kt + wt + (S0 a + ((a &&& b) ^^^ (a &&& c) ^^^ (b &&& c)))) a b c (d + (h + S1 e + ((e &&& f) ^^^ (~~~ e &&& g)) + kt + wt)) e f g := by
  obtain ⟨rfl⟩ := hk
  obtain ⟨rfl⟩ := hw
  constructor
  rw [rounds, H.eq]; rfl
theorem RoundsAre.comp {l : List UInt8} {W : List (BitVec 32)} {st : S8} {a b c d e f g h : BitVec 32} (hW : SchedIs l W) (H : RoundsAre W st 64 a b c d e f g h) :
    comp l st = ⟨st.a + a, st.b + b, st.c + c, st.d + d, st.e + e, st.f + f, st.g + g, st.h + h⟩ := by
  have e := H.eq
  rw [hW.eq] at e
  rw [Proofs.YthkfefkcjcgfkaaGreatDoor.comp, e]
end Go.Proofs.YthkfefkcjcgfkaaGreatDoor

namespace Go.Proofs.YthkfefkcjcgfkaaGreatDoor
open Go.RowKit

/-- The words k stand where the program keeps them. -/
def KIs (w : World) : Prop := ∀ i, i < 64 → w.cell? ⟨8, i, none⟩ = some (.int .u32 (U (k64.getD i 0)))
theorem KIs.lt {w : World} (h : KIs w) : 8 < w.heap.size := block_lt_of_cell (h 0 (by omega))
theorem KIs.below {B : Nat} {w w' : World} (h : KIs w) (hb : Below B w w') (hB : 8 < B) : KIs w' := fun i hi => by
  rw [hb.cell (p := ⟨8, i, none⟩) hB]; exact h i hi
theorem KIs.save {B b : Nat} {w w' : World} (h : KIs w) (hb : Save B b w w') (hB : 8 < B) (hn : b ≠ 8) : KIs w' := fun i hi => by
  rw [hb.cell (p := ⟨8, i, none⟩) hB hn.symm]; exact h i hi

theorem spread_new (b : Nat) (l : List UInt8) (st : S8) (rest : List Value) (w : World) (t0 : TypeId)
    (hb : Blk w b (st.cells ++ rest) t0) (hr : ∀ i, i < 64 → rest[i]? = some (.int .u8 (Y (l.getD i 0)))) (hK : KIs w) :
    Calls Tryz.prog 164 #[.pointer (some ⟨w.heap.size, 0, none⟩), .pointer (some ⟨b, 8, none⟩)] (w.alloc (.cells zeros64 188)) fun e w1 => e = .returned (.tuple #[]) ∧
      (∃ W, SchedIs l W ∧ Blk w1 w.heap.size (wcells 64 W) 188) ∧ Blk w1 b (st.cells ++ rest) t0 ∧ Below w.heap.size w w1 ∧ KIs w1 := by
  have hlt := hb.lt
  have hcb : ∀ i, i < 64 → w.cell? ⟨b, 8 + i, none⟩ = some (.int .u8 (Y (l.getD i 0))) := fun i hi => by
    rw [hb.cell, List.getElem?_append_right (by simp [S8.cells, S8.list])]
    have : (8 + i - st.cells.length) = i := by simp [S8.cells, S8.list]
    rw [this]; exact hr i hi
  have hcs : ∀ i, i < 64 → (w.alloc (.cells (wcells 64 []).toArray 188)).cell? ⟨b, 8 + i, none⟩ = some (.int .u8 (Y (l.getD i 0))) := fun i hi => by
    rw [World.cell?_alloc_past _ _ _ hlt]; exact hcb i hi
  have hW0 := Blk.new w (wcells 64 []) 188
  have hne : w.heap.size ≠ b := by omega
  have H1 := spread_any w.heap.size b 8 l _ 188 hne hW0 hcs
  rw [zeros64_eq] at H1
  refine H1.mono fun e w1 ⟨h0, h1, h2⟩ => ?_
  have h3 : Below w.heap.size w w1 := ((Below.refl _ w).alloc (Nat.le_refl _) _).trans ((h2.mono (by simp)).below (Nat.le_refl _))
  exact ⟨h0, ⟨_, ⟨rfl⟩, h1⟩, hb.below h3 hlt, h3, hK.below h3 hK.lt⟩

set_option maxHeartbeats 800000 in
set_option maxRecDepth 100000 in
theorem mix_any (b : Nat) (l : List UInt8) (st : S8) (rest : List Value) (w : World) (t0 : TypeId)
    (hb : Blk w b (st.cells ++ rest) t0) (hr : ∀ i, i < 64 → rest[i]? = some (.int .u8 (Y (l.getD i 0))))
    (hK : KIs w) :
    Calls Tryz.prog 157 #[.pointer (some ⟨b, 0, none⟩), .pointer (some ⟨b, 8, none⟩)] w fun e w' => e = .returned (.tuple #[]) ∧ Blk w' b ((comp l st).cells ++ rest) t0 ∧ Save w.heap.size b w w' := by
  have hlt := hb.lt
  go_enter Tryz.func157, Tryz.ntmps157
  go_wp2_with (go_at_call 164; refine (spread_new b l st rest w t0 hb hr hK).mono ?_; rintro e w1 ⟨rfl, ⟨W, hWW, hW1⟩, hb1, hB1, hK1⟩)
  have c0 := hb1.cell 0
  have c1 := hb1.cell 1
  have c2 := hb1.cell 2
  have c3 := hb1.cell 3
  have c4 := hb1.cell 4
  have c5 := hb1.cell 5
  have c6 := hb1.cell 6
  have c7 := hb1.cell 7
  simp only [S8.cells, S8.list, List.map_cons, List.cons_append, List.getElem?_cons_zero, List.getElem?_cons_succ] at c0 c1 c2 c3 c4 c5 c6 c7
  go_quiet (fail)
  go_wp2
  go_quiet (fail)
  go_wp2
  go_loopw [5, 6, 7, 8, 9, 10, 11, 12, 50] (fun s5 s6 s7 s8 s9 s10 s11 s12 q wr => ∃ (k : Nat) (a b c d e f g h : BitVec 32), k ≤ 64 ∧ q = .int .i64 k ∧ Drawn w1 wr ∧ RoundsAre W st k a b c d e f g h ∧
      s5 = .int .u32 (U a) ∧ s6 = .int .u32 (U b) ∧ s7 = .int .u32 (U c) ∧ s8 = .int .u32 (U d) ∧ s9 = .int .u32 (U e) ∧ s10 = .int .u32 (U f) ∧ s11 = .int .u32 (U g) ∧ s12 = .int .u32 (U h)) (fun _ _ _ _ _ _ _ _ q _ => 64 - (intOf q).toNat)
  case atStart => exact ⟨0, _, _, _, _, _, _, _, _, by omega, rfl, Drawn.of2 _ _ _, RoundsAre.zero W st, rfl, rfl, rfl, rfl, rfl, rfl, rfl, rfl⟩
  case round =>
    obtain ⟨k, a, b', c, d, e, f, g, h, hk, rfl, HD, HR, rfl, rfl, rfl, rfl, rfl, rfl, rfl, rfl⟩ := hrel
    by_cases hk64 : k < 64
    · have kk := hK1 k hk64
      rw [← HD.cell] at kk
      have ww := (HD.blk hW1).cell k
      rw [wcells_get' 64 _ _ _ hWW.len hk64] at ww
      obtain ⟨kt, hkt⟩ : ∃ x, k64.getD k 0 = x := ⟨_, rfl⟩
      obtain ⟨wt, hwt⟩ : ∃ x, W.getD k 0 = x := ⟨_, rfl⟩
      rw [hkt] at kk
      rw [hwt] at ww
      have HK := Box.mk hkt
      have HW := Box.mk hwt
      clear hkt hwt
      clear c0 c1 c2 c3 c4 c5 c6 c7 hW1 hK1 hb1 hB1 hb hr hK
      go_wp2_with fail
      have ua := U_add
      have ux := U_xor
      have un := U_and
      have uo := U_not
      have us : (if IntKind.u32.signed = true then (-1 : Int) else IntKind.u32.max) = 4294967295 := by decide
      go_quiet ((go_at_call 165; exact quiet_same (turns_S1 _ _)))
      go_wp2_with (go_at_call 165; refine (turns_S0 _ _).mono ?_; rintro e w' ⟨rfl, rfl⟩)
      have hm : 64 - (intOf (Value.int IntKind.i64 (↑k + 1))).toNat < 64 - (intOf (Value.int IntKind.i64 ↑k)).toNat := by simp [intOf]; omega
      exact ⟨⟨k + 1, _, _, _, _, _, _, _, _, by omega, by go_num, HD.drewN nq, HR.step HK HW, rfl, rfl, rfl, rfl, rfl, rfl, rfl, rfl⟩, hm⟩
    · obtain rfl : k = 64 := by omega
      have HB := Box.mk (HR.comp hWW)
      have hb2 := HD.blk hb1
      have hS2 : Save w.heap.size b w wr := Save.of_below (hB1.trans HD.below)
      clear hK1 hW1 hWW HR HD hB1 hb1 hr hK hb
      have z0 := hb2.cell 0
      have z1 := hb2.cell 1
      have z2 := hb2.cell 2
      have z3 := hb2.cell 3
      have z4 := hb2.cell 4
      have z5 := hb2.cell 5
      have z6 := hb2.cell 6
      have z7 := hb2.cell 7
      simp only [S8.cells, S8.list, List.map_cons, List.cons_append, List.getElem?_cons_zero, List.getElem?_cons_succ] at z0 z1 z2 z3 z4 z5 z6 z7
      clear c0 c1 c2 c3 c4 c5 c6 c7
      have f0 := hb2.free 0
      have f1 := hb2.free 1
      have f2 := hb2.free 2
      have f3 := hb2.free 3
      have f4 := hb2.free 4
      have f5 := hb2.free 5
      have f6 := hb2.free 6
      have f7 := hb2.free 7
      have ua := U_add
      have HB2 := Box.mk hb2
      have HS2 := Box.mk hS2
      clear hb2 hS2
      go_wp2_with fail
      go_region
      go_wp2_with fail
      go_region
      go_wp2_with fail
      go_region
      go_wp2_with fail
      go_region
      go_wp2_with fail
      go_region
      go_wp2_with fail
      go_region
      go_wp2_with fail
      go_region
      go_wp2_with fail
      go_region
      go_wp2_with fail
      go_end0
      refine ⟨rfl, ?_, ?_⟩
      · rw [HB.out]
        iterate 8 with_reducible apply Blk.drew
        with_reducible exact set8 st _ _ _ _ _ _ _ _ HB2.out
      · iterate 8 with_reducible apply Save.drew
        with_reducible exact set8_save HS2.out _ _ _ _ _ _ _ _
end Go.Proofs.YthkfefkcjcgfkaaGreatDoor

namespace Go.Proofs.YthkfefkcjcgfkaaGreatDoor
open Go Go.RowKit Go.ChangeShapes Go.WideShapes

section
variable {H : Type} {enc : TypeId × Value → H} {P : Program}
/-- Arguments that were read read the same behind a call that changed nothing that was there. -/
theorem all_below (hl : laidOutB P = true) {W W' : World} (hb : Below W.heap.size W W') (sp : Nat → Bool) : ∀ {ts : List TypeId} {vs : List Value} {ds : List (DataW H)} {ps : List MemPlace},
    (∀ t ∈ ts, P.readableRec t = true ∧ t < P.types.size) → DataW.TrodAll enc P W 0 (fun _ => true) true ts vs ds ps → (∀ p ∈ ps, p.block < W.heap.size) → (∀ p ∈ ps, sp p.block = true) →
    DataW.TrodAll enc P W' 0 sp true ts vs ds ps
  | [], vs, ds, ps, _, h, _, _ => by
    obtain ⟨rfl, rfl, rfl⟩ := trodAll_nil h
    rfl
  | t :: ts, vs, ds, ps, ht, h, hlt, hsp => by
    obtain ⟨v, vs', d, ds', p, q, rfl, rfl, rfl, h0, hr⟩ := trodAll_cons h
    have h1 := ht t (by simp)
    refine trodAll_cons_mk (WideElems.Trod_stays hl h1.1 h1.2 h0 (fun x hx => hb.same (hlt x (by simp [hx]))) (fun x hx => hsp x (by simp [hx]))) ?_
    exact all_below hl hb sp (fun t' h' => ht t' (by simp [h'])) hr (fun x hx => hlt x (by simp [hx])) (fun x hx => hsp x (by simp [hx]))

theorem law_post {f : Func} {s : ChangeSpec} {apart fresh handsOn again : Bool} {W W' : World} {args : Array Value} {ds gs : List (DataW H)} {before : List MemPlace} {tb : TypeId}
    (hl : laidOutB P = true) (hts : ∀ t ∈ f.params.toList, P.readableRec t = true ∧ t < P.types.size) (hv : s.vars = [])
    (hW : DataW.Whole enc P f.params.toList s.vars apart W args.toList ds gs before)
    (hfn : s.fn H (ds ++ gs) = { results := [.lit (.bool true)], args := ds, vars := [] })
    (hres : f.resultTypes = #[tb]) (hu : P.underlying tb = some .bool) (hb : Below W.heap.size W W') :
    s.post enc P f apart fresh handsOn again W args (.bool true) W' := by
  have hlt : ∀ p ∈ before, p.block < W.heap.size := fun p hp => hW.lt p hp
  have hW0 := hW
  obtain ⟨p, q, hA, hV, rfl, hz, hn⟩ := hW
  rw [hv] at hV
  obtain ⟨rfl, rfl⟩ := trodVars_none hV
  simp only [List.append_nil] at *
  have hold : ∀ x ∈ p, (fun b => decide (b < W.heap.size)) x.block = true := fun x hx => by simpa using hlt x hx
  have hR : ∀ (b : Nat) (sp : Nat → Bool) (hd : Bool), DataW.TrodAll enc P W' b sp hd f.resultTypes.toList ((Value.bool true).resultList f.resultTypes.size) [.lit (.bool true)] [] := fun b sp hd => by
    rw [hres]; exact trodAll_cons_mk (shut_bool hu _) trodAll_mk0
  refine ⟨ds, [], p, [], p, [], by simpa using hW0, ?_, ?_, ?_, World.keptBut_mono (fun x hx => ⟨hx, Or.inr (Or.inl hx)⟩) (hb.frame (· ∈ p)), fun _ => ?_⟩
  · rw [List.append_nil, hfn]; exact hR _ _ _
  · rw [List.append_nil, hfn]; exact all_below hl hb _ hts hA hlt hold
  · rw [List.append_nil, hfn, hv]; rfl
  · refine ⟨ok_one hres rfl (okWide_bool_mk hu _), [.lit (.bool true)] ++ ds, [], p, ⟨p, [], ?_, ?_, by simp, ?_, hn⟩, fun x hx _ => hx⟩
    · have h1 := hR 0 (fun _ => true) true
      have h2 := all_below hl hb (fun _ => true) hts hA hlt (fun _ _ => rfl)
      rw [hres]
      exact ⟨[], p, shut_bool hu _, h2, rfl⟩
    · rw [hv]; rfl
    · intro b off hp
      rw [hb.frozen (p := ⟨b, off, none⟩) (hlt _ hp)]
      exact hz b off hp
end
end Go.Proofs.YthkfefkcjcgfkaaGreatDoor

namespace Go.Proofs.YthkfefkcjcgfkaaGreatDoor
open Go.RowKit

/-- A byte as a cell. -/
def yc (x : UInt8) : Value := .int .u8 (Y x)
/-- A row with other cells laid over it from a place on. -/
def spl {α : Type} (L : List α) (off : Nat) (cs : List α) : List α := L.take off ++ (cs ++ L.drop (off + cs.length))
theorem spl_length {α : Type} (L : List α) (off : Nat) (cs : List α) (h : off + cs.length ≤ L.length) : (spl L off cs).length = L.length := by
  simp [spl]; omega

theorem run_copy_str {P : Program} (w : World) (dT sT ty elem : TypeId) (g o dLen dCap : Nat) (s : ByteArray) (cur : List Value) (t : TypeId)
    (hu : P.underlying dT = some (.slice elem)) (hs : (P.info? elem).map (·.size) = some 1) (hg : Blk w g cur t) (hfit : o + Nat.min s.size dLen ≤ cur.length) :
    (Builtin.copy_ #[dT, sT] ty #[.slice (some ⟨g, o, none⟩) dLen dCap, .string s]).run P w =
      .ok (goInt (Nat.min s.size dLen)) (w.setRow g (spl cur o ((s.data.toList.take (Nat.min s.size dLen)).map yc)).toArray) := by
  have hn : Nat.min s.size dLen ≤ s.size := Nat.min_le_left _ _
  generalize hm : Nat.min s.size dLen = n at *
  have hlen : ((s.data.toList.take n).map yc).length = n := by
    have : s.data.toList.length = s.size := by rw [Array.length_toList]; rfl
    rw [List.length_map, List.length_take, this]; omega
  have hst := run_storeCells_at P g o t ((s.data.toList.take n).map yc) 0 cur.toArray w hg (by rw [hlen]; simpa using hfit) (by
    intro v hv; simp only [List.mem_map] at hv; obtain ⟨x, _, rfl⟩ := hv; rfl)
  rw [hlen] at hst
  simp only [Nat.add_zero] at hst
  cases hq : P.info? elem with
  | none => simp [hq] at hs
  | some i =>
    have htk : List.take n (List.map (fun b : UInt8 => Value.int IntKind.u8 (b.toNat : Int)) s.data.toList) = (s.data.toList.take n).map yc := by
      rw [← List.map_take]; rfl
    have e : spl cur o ((s.data.toList.take n).map yc) = cur.take o ++ ((s.data.toList.take n).map yc ++ cur.drop (o + n)) := by rw [spl, hlen]
    rw [e]
    simp [Builtin.copy_, run_underlying hu, Builtin.lenOf, Builtin.firstCells, sizeOf, typeInfo, hq, hm]
    rw [htk, hst]
    simp [Result.andThen]

theorem run_store_row {P : Program} {w : World} {g o : Nat} {cur : List Value} {t : TypeId} (hg : Blk w g cur t) (vs : List Value) (hfit : o + vs.length ≤ cur.length) (h1 : ∀ v ∈ vs, v.oneCell' = true) :
    (storeCells ⟨g, o, none⟩ vs).run P w = .ok () (w.setRow g (spl cur o vs).toArray) := by
  have := run_storeCells_at P g o t vs 0 cur.toArray w hg (by simpa using hfit) h1
  simp only [Nat.add_zero] at this
  rw [this]; simp [spl]
theorem words_one (l : List (BitVec 32)) : ∀ v ∈ l.map fun x => Value.int .u32 (U x), v.oneCell' = true := by
  intro v hv; simp only [List.mem_map] at hv; obtain ⟨x, _, rfl⟩ := hv; rfl
theorem setRow_blk {w : World} {g : Nat} {cur : List Value} {t : TypeId} (hg : Blk w g cur t) (cs : List Value) : Blk (w.setRow g cs.toArray) g cs t := setRow_heap w g _ _ t _ hg
theorem setRow_save (w : World) (B g : Nat) (cs : Array Value) : Save B g w (w.setRow g cs) := ⟨rfl, rfl, rfl, by simp [World.setRow], fun k _ hn => setRow_other w g k cs hn⟩

theorem wpList_copy_str {P : Program} {w : World} {ops : Array Oper} {rest : List Oper} {o : Oper} {a : Act} {Q : Exit → Act → World → Prop} (hgd : o.guard = none) (d s : Operand) (dT sT : TypeId)
    (ho : o.op = .call { callee := .builtin .copy, args := #[d, s], argTypes := #[dT, sT] }) (elem : TypeId) (hu : P.underlying dT = some (.slice elem)) (hsz : (P.info? elem).map (·.size) = some 1)
    (g off dLen dCap : Nat) (str : ByteArray) (hd : a.eval d = .slice (some ⟨g, off, none⟩) dLen dCap) (hs : a.eval s = .string str)
    (cur : List Value) (t : TypeId) (hg : Blk w g cur t) (hfit : off + Nat.min str.size dLen ≤ cur.length)
    (h : ∀ w', Box (Blk w' g (spl cur off ((str.data.toList.take (Nat.min str.size dLen)).map yc)) t) → Box (∀ B, Save B g w w') → wpList P ops Q rest (a.put o.dst (goInt (Nat.min str.size dLen))) w') :
    wpList P ops Q (o :: rest) a w := by
  refine wpList_plain hgd fun K hK => ?_
  have hrun := run_copy_str (P := P) w dT sT o.type elem g off dLen dCap str cur t hu hsz hg hfit
  generalize (str.data.toList.take (Nat.min str.size dLen)).map yc = X at hrun h
  unfold Oper.wp
  simp [execOp, ho, resolve, invoke, builtin, hd, hs, hrun, Result.andThen]
  exact hK _ _ (h _ ⟨setRow_blk hg _⟩ ⟨fun B => setRow_save w B g _⟩)

/-! ### A digest's cells -/
def dcells (st : S8) (bl : List UInt8) (n : Nat) : List Value := st.cells ++ (bl.map yc ++ [.int .i64 (n : Int)])
theorem S8.cells_length (st : S8) : st.cells.length = 8 := rfl
theorem dcells_length (st : S8) (bl : List UInt8) (n : Nat) (h : bl.length = 64) : (dcells st bl n).length = 73 := by
  simp [dcells, S8.cells_length, h]
theorem dcells_size (st : S8) (bl : List UInt8) (n : Nat) (h : bl.length = 64) : (dcells st bl n)[72]? = some (.int .i64 (n : Int)) := by
  rw [dcells, List.getElem?_append_right (by rw [S8.cells_length]; omega), List.getElem?_append_right (by simp [S8.cells_length, h])]
  simp [S8.cells_length, h]
theorem dcells_set (st : S8) (bl : List UInt8) (n m : Nat) (h : bl.length = 64) : (dcells st bl n).set 72 (.int .i64 (m : Int)) = dcells st bl m := by
  rw [dcells, List.set_append_right _ _ (by rw [S8.cells_length]; omega), List.set_append_right _ _ (by simp [S8.cells_length, h])]
  simp [S8.cells_length, h, dcells]
theorem dcells_block (bl : List UInt8) (n i : Nat) (h : bl.length = 64) (hi : i < 64) : (bl.map yc ++ [Value.int .i64 (n : Int)])[i]? = some (.int .u8 (Y (bl.getD i 0))) := by
  rw [List.getElem?_append_left (by simp [h]; exact hi)]
  simp [List.getD, h, hi, yc]
theorem dcells_spl (st : S8) (bl : List UInt8) (N u : Nat) (s : List UInt8) (h : bl.length = 64) (hu : u + s.length ≤ 64) : spl (dcells st bl N) (8 + u) (s.map yc) = dcells st (spl bl u s) N := by
  have h1 : (dcells st bl N).take (8 + u) = st.cells ++ (bl.take u).map yc := by
    rw [dcells, List.take_append, S8.cells_length, List.take_of_length_le (by rw [S8.cells_length]; omega), show 8 + u - 8 = u by omega, List.take_append_of_le_length (by simp [h]; omega), List.map_take]
  have h2 : (dcells st bl N).drop (8 + u + s.length) = (bl.drop (u + s.length)).map yc ++ [.int .i64 (N : Int)] := by
    rw [dcells, List.drop_append, S8.cells_length, List.drop_of_length_le (by rw [S8.cells_length]; omega), show 8 + u + s.length - 8 = u + s.length by omega, List.drop_append_of_le_length (by simp [h]; omega), List.map_drop]
    rfl
  rw [spl, List.length_map, h1, h2, dcells, spl]
  simp [List.append_assoc]
end Go.Proofs.YthkfefkcjcgfkaaGreatDoor

namespace Go.Proofs.YthkfefkcjcgfkaaGreatDoor
open Go.RowKit

def first : S8 := ⟨0x6a09e667, 0xbb67ae85, 0x3c6ef372, 0xa54ff53a, 0x510e527f, 0x9b05688c, 0x1f83d9ab, 0x5be0cd19⟩
def blockAt (m : List UInt8) (k : Nat) : List UInt8 := (m.drop (64 * k)).take 64
def stateAt (m : List UInt8) : Nat → S8
  | 0 => first
  | k + 1 => comp (blockAt m k) (stateAt m k)
theorem blockAt_append (m s : List UInt8) (k : Nat) (h : 64 * (k + 1) ≤ m.length) : blockAt (m ++ s) k = blockAt m k := by
  unfold blockAt
  rw [List.drop_append_of_le_length (by omega), List.take_append_of_le_length (by rw [List.length_drop]; omega)]
theorem stateAt_append (m s : List UInt8) : ∀ k, 64 * k ≤ m.length → stateAt (m ++ s) k = stateAt m k
  | 0, _ => rfl
  | k + 1, h => by rw [stateAt, stateAt, blockAt_append m s k h, stateAt_append m s k (by omega)]

theorem dcells_first (st : S8) (bl : List UInt8) (n : Nat) : spl (dcells st bl n) 0 (first8.map fun x => Value.int .u32 (U x)) = dcells first bl n := rfl
/-- A digest's block holds the text c, its size being told as N. -/
structure DigAt (w : World) (b : Nat) (c : List UInt8) (N : Nat) : Prop where
  ex : ∃ (k u : Nat) (bl : List UInt8), c.length = 64 * k + u ∧ u < 64 ∧ bl.length = 64 ∧ bl.take u = c.drop (64 * k) ∧ Blk w b (dcells (stateAt c k) bl N) 169
/-- A digest was handed the text m. -/
structure DigIs (w : World) (b : Nat) (m : List UInt8) : Prop where
  ex : DigAt w b m m.length ∨ (m = [] ∧ ∃ st bl, bl.length = 64 ∧ Blk w b (dcells st bl 0) 169)
/-- The same, laid open. -/
structure DigK (w : World) (b : Nat) (c : List UInt8) (N k u : Nat) (bl : List UInt8) : Prop where
  len : c.length = 64 * k + u
  lt : u < 64
  full : bl.length = 64
  tail : bl.take u = c.drop (64 * k)
  blk : Blk w b (dcells (stateAt c k) bl N) 169
theorem DigAt.open {w : World} {b : Nat} {c : List UInt8} {N : Nat} (h : DigAt w b c N) : ∃ k u bl, DigK w b c N k u bl := by
  obtain ⟨k, u, bl, h1, h2, h3, h4, h5⟩ := h.ex
  exact ⟨k, u, bl, h1, h2, h3, h4, h5⟩
theorem DigK.shut {w : World} {b : Nat} {c : List UInt8} {N k u : Nat} {bl : List UInt8} (h : DigK w b c N k u bl) : DigAt w b c N := ⟨k, u, bl, h.len, h.lt, h.full, h.tail, h.blk⟩
theorem DigK.size {w : World} {b : Nat} {c : List UInt8} {N k u : Nat} {bl : List UInt8} (h : DigK w b c N k u bl) : w.cell? ⟨b, 72, none⟩ = some (.int .i64 (N : Int)) := by
  rw [h.blk.cell, dcells_size _ _ _ h.full]
theorem DigK.free {w : World} {b : Nat} {c : List UInt8} {N k u : Nat} {bl : List UInt8} (h : DigK w b c N k u bl) (i : Nat) : w.frozen? ⟨b, i, none⟩ = false := h.blk.free i
theorem DigK.resize {w : World} {b : Nat} {c : List UInt8} {N k u : Nat} {bl : List UInt8} (h : DigK w b c N k u bl) (M : Nat) : DigK (w.setCell ⟨b, 72, none⟩ (.int .i64 (M : Int))) b c M k u bl := by
  refine ⟨h.len, h.lt, h.full, h.tail, ?_⟩
  have := h.blk.setCell 72 (.int .i64 (M : Int))
  rwa [dcells_set _ _ _ _ h.full] at this
theorem DigAt.at_u {w : World} {b : Nat} {c : List UInt8} {N k u : Nat} (h : DigAt w b c N) (hc : c.length = 64 * k + u) (hu : u < 64) : ∃ bl, DigK w b c N k u bl := by
  obtain ⟨k', u', bl, H⟩ := h.open
  have := H.len; have := H.lt
  obtain rfl : k' = k := by omega
  obtain rfl : u' = u := by omega
  exact ⟨bl, H⟩
/-- What a copy leaves: the part is laid in. -/
theorem DigK.laid {w w' : World} {b : Nat} {c : List UInt8} {N k u n : Nat} {bl s : List UInt8} (h : DigK w b c N k u bl) (hn : (s.take n).length = n) (hs : u + n ≤ 64)
    (hB : Blk w' b (spl (dcells (stateAt c k) bl N) (8 + u) ((s.take n).map yc)) 169) : Blk w' b (dcells (stateAt c k) (spl bl u (s.take n)) N) 169 := by
  rwa [dcells_spl _ _ _ _ _ h.full (by omega)] at hB
theorem DigIs.empty {w : World} {b : Nat} (h : DigIs w b []) : ∃ st bl, bl.length = 64 ∧ Blk w b (dcells st bl 0) 169 := by
  obtain ⟨⟨k, u, bl, _, _, hb, _, hB⟩⟩ | ⟨_, h⟩ := h.ex
  · exact ⟨_, bl, hb, hB⟩
  · exact h
theorem DigIs.at {w : World} {b : Nat} {m : List UInt8} (h : DigIs w b m) (hm : m ≠ []) : DigAt w b m m.length := by
  obtain h | ⟨h, _⟩ := h.ex
  · exact h
  · exact absurd h hm
theorem DigAt.start {w : World} {b : Nat} {bl : List UInt8} (hb : bl.length = 64) (h : Blk w b (dcells first bl 0) 169) : DigAt w b [] 0 :=
  ⟨0, 0, bl, rfl, by omega, hb, rfl, h⟩
theorem spl_take (bl : List UInt8) (u : Nat) (s : List UInt8) (h : bl.length = 64) (hu : u + s.length ≤ 64) : (spl bl u s).take (u + s.length) = bl.take u ++ s := by
  rw [spl, ← List.append_assoc, List.take_append_of_le_length (by simp; omega), List.take_of_length_le (by simp; omega)]
/-- A part is laid into the block that isn't full. -/
theorem DigAt.part {w' : World} {b : Nat} {c s : List UInt8} {N k u : Nat} {bl : List UInt8} (hc : c.length = 64 * k + u) (hb : bl.length = 64) (ht : bl.take u = c.drop (64 * k)) (hs : u + s.length < 64)
    (hB : Blk w' b (dcells (stateAt c k) (spl bl u s) N) 169) : DigAt w' b (c ++ s) N := by
  refine ⟨k, u + s.length, spl bl u s, by rw [List.length_append]; omega, hs, by rw [spl_length _ _ _ (by omega)]; exact hb, ?_, ?_⟩
  · rw [spl_take bl u s hb (by omega), ht, List.drop_append_of_le_length (by omega)]
  · rw [stateAt_append c s k (by omega)]; exact hB
/-- The part that fills the block, which is mixed in. -/
theorem DigAt.full {w' : World} {b : Nat} {c s : List UInt8} {N k u : Nat} {bl : List UInt8} (hc : c.length = 64 * k + u) (hb : bl.length = 64) (ht : bl.take u = c.drop (64 * k)) (hs : u + s.length = 64)
    (hB : Blk w' b (dcells (comp (spl bl u s) (stateAt c k)) (spl bl u s) N) 169) : DigAt w' b (c ++ s) N := by
  have e1 : (spl bl u s) = blockAt (c ++ s) k := by
    have h1 := spl_take bl u s hb (by omega)
    rw [List.take_of_length_le (by rw [spl_length _ _ _ (by omega)]; omega)] at h1
    rw [blockAt, List.drop_append_of_le_length (by omega), List.take_of_length_le (by rw [List.length_append, List.length_drop]; omega), h1, ht]
  refine ⟨k + 1, 0, spl bl u s, by rw [List.length_append]; omega, by omega, by rw [spl_length _ _ _ (by omega)]; exact hb, ?_, ?_⟩
  · rw [List.drop_of_length_le (by rw [List.length_append]; omega)]; rfl
  · rw [stateAt, ← e1, stateAt_append c s k (by omega)]; exact hB
theorem data_len (r : ByteArray) : r.data.toList.length = r.size := by rw [Array.length_toList]; rfl
/-- What is left of a text behind its first n bytes. -/
theorem rest_data (r : ByteArray) (n : Nat) : (r.extract n r.size).data.toList = r.data.toList.drop n := by
  rw [ByteArray.data_extract, Array.toList_extract, List.extract_eq_take_drop]
  rw [List.take_of_length_le (by rw [List.length_drop, data_len]; omega)]
theorem rest_size (r : ByteArray) (n : Nat) (h : n ≤ r.size) : (r.extract n r.size).size = r.size - n := by
  rw [ByteArray.size_extract]; omega
theorem take_len (r : ByteArray) (n : Nat) (h : n ≤ r.size) : (r.data.toList.take n).length = n := by
  rw [List.length_take, data_len]; omega
theorem goes_on {c m : List UInt8} {r : ByteArray} {n : Nat} (h : c ++ r.data.toList = m) : (c ++ r.data.toList.take n) ++ (r.extract n r.size).data.toList = m := by
  rw [rest_data, List.append_assoc, List.take_append_drop]; exact h
theorem min_part {r u n : Nat} (h : Nat.min r (64 - u) = n) (hu : u < 64) (h0 : 0 < r) : r - n < r ∧ n ≤ r ∧ u + n ≤ 64 := by
  rcases Nat.le_total r (64 - u) with h1 | h1
  · have : Nat.min r (64 - u) = r := Nat.min_eq_left h1
    omega
  · have : Nat.min r (64 - u) = 64 - u := Nat.min_eq_right h1
    omega
end Go.Proofs.YthkfefkcjcgfkaaGreatDoor
