/- meta: Open of both. -/
import Derived.Test.YtiblkfkeifnpaaaGreatDoorZmv
import Derived.Test.YtiblkfkeifnpaaaGreatDoorZmw
import Derived.Test.YtiblkfkeifnpaaaGreatDoorZmx
import Derived.Test.YtiblkfkeifnpaaaGreatDoorZmy
set_option linter.all false
namespace Go.Proofs.YtiblkfkeifnpaaaGreatDoor.Me
open Go Go.RowKit Go.Proofs.YtiblkfkeifnpaaaGreatDoor Go.Proofs.YtiblkfkeifnpaaaGreatDoor.Nt
theorem rdecode_any (s : ByteArray) (B : Nat) (w : World) (hL : NL B w) (hB : B ≤ w.heap.size) :
    Calls Tryz.prog 13 #[.string s] w fun e w' => DecS w.heap.size s.data.toList e w' ∧ Below w.heap.size w w' := by
  by_cases h1 : (Pk.numR 1 s.data.toList 0).1 = 1
  · exact rdec_1 s B w hL hB h1
  by_cases h2 : (Pk.numR 1 s.data.toList 0).1 = 2
  · exact rdec_2 s B w hL hB h2
  by_cases h3 : (Pk.numR 1 s.data.toList 0).1 = 3
  · exact rdec_3 s B w hL hB h3
  by_cases h4 : (Pk.numR 1 s.data.toList 0).1 = 4
  · exact rdec_4 s B w hL hB h4
  exact rdec_0 s B w hL hB h1 h2 h3 h4
/-- A row of sets in memory. -/
structure SetsAt (w : World) (v : Value) (ss : List SetM) : Prop where
  ex : ∃ (a : Option Addr) (cap : Nat), v = .slice a ss.length cap ∧ (0 < ss.length → ∃ blk off, a = some ⟨blk, off, none⟩ ∧ blk < w.heap.size ∧ ∀ i, i < ss.length → ∃ x : Option Addr × Nat, w.cell? ⟨blk, off + i * 2, none⟩ = some (.slice x.1 (ss.getD i default).1.length x.2) ∧ w.cell? ⟨blk, off + i * 2 + 1, none⟩ = some (.int .i64 (ss.getD i default).2) ∧ PartsAt w (.slice x.1 (ss.getD i default).1.length x.2) (ss.getD i default).1)
theorem SetsAt.here {w w' : World} {v : Value} {ss : List SetM} (h : SetsAt w v ss) (hb : Below w.heap.size w w') : SetsAt w' v ss := by
  obtain ⟨a, cap, rfl, hh⟩ := h.ex
  refine ⟨a, cap, rfl, fun h0 => ?_⟩
  obtain ⟨blk, off, rfl, hlt, hc⟩ := hh h0
  exact ⟨blk, off, rfl, Nat.lt_of_lt_of_le hlt hb.size, fun i hi => by
    obtain ⟨x, k1, k2, k3⟩ := hc i hi
    exact ⟨x, (hb.cell (p := ⟨blk, off + i * 2, none⟩) hlt).trans k1, (hb.cell (p := ⟨blk, off + i * 2 + 1, none⟩) hlt).trans k2, k3.here hb⟩⟩
theorem SetsAt.at {w : World} {a : Option Addr} {n c : Nat} {ss : List SetM} (h : SetsAt w (.slice a n c) ss) (i : Nat) (hi : i < ss.length) : ∃ blk off, a = some ⟨blk, off, none⟩ ∧ ∃ x : Option Addr × Nat, w.cell? ⟨blk, off + i * 2, none⟩ = some (.slice x.1 (ss.getD i default).1.length x.2) ∧ w.cell? ⟨blk, off + i * 2 + 1, none⟩ = some (.int .i64 (ss.getD i default).2) ∧ PartsAt w (.slice x.1 (ss.getD i default).1.length x.2) (ss.getD i default).1 := by
  obtain ⟨a', c', e, hh⟩ := h.ex
  cases e
  obtain ⟨blk, off, rfl, _, hc⟩ := hh (by omega)
  exact ⟨blk, off, rfl, hc i hi⟩
theorem SetsAt.nil (w : World) : SetsAt w (.slice none 0 0) [] := ⟨none, 0, rfl, fun h => absurd h (by decide)⟩
def enS (body : ByteArray) (sg : List SigM) (s : SetM) : Bool := enB s.1 s.2 body sg
/-- What Open answers. -/
def opM (l : List UInt8) (kind : Int) (ss : List SetM) : Dc × ByteArray × Int :=
  if (unsM l).2.2 ≠ 0 then (dc0, ByteArray.empty, 3) else if (decM (unsM l).1.data.toList).2 ≠ 0 then (dc0, ByteArray.empty, 3) else if (decM (unsM l).1.data.toList).1.k ≠ kind then (dc0, ByteArray.empty, 1)
  else if ss.all (enS (unsM l).1 (unsM l).2.1) then ((decM (unsM l).1.data.toList).1, (unsM l).1, 0) else (dc0, ByteArray.empty, 9)
def OpS (B : Nat) (l : List UInt8) (kind : Int) (ss : List SetM) (e : Ending) (w' : World) : Prop := ∃ z, e = .returned (.tuple #[docV (opM l kind ss).1 z, .string (opM l kind ss).2.1, .int .i64 (opM l kind ss).2.2]) ∧ DcR B w' z (opM l kind ss).1
theorem uns_two (l : List UInt8) : (unsM l).2.2 = 0 ∨ unsM l = (ByteArray.empty, [], 3) := by
  unfold unsM
  split
  · exact .inl rfl
  · exact .inr rfl
theorem uns_len (l : List UInt8) : (unsM l).1.size ≤ 140737488351232 ∧ (unsM l).2.1.length ≤ 16 := by
  unfold unsM
  split
  · rename_i h
    refine ⟨?_, h.2⟩
    show (Pk.btx (Pk.textR 65535 l 0).1).size ≤ _
    by_cases h0 : (textsR 65535 l 0).2.2 = 0
    · have := ((textC 65535 (by decide)).told l h0).1
      exact Nat.le_trans this (by decide)
    · exact absurd ((endE_iff _ _).1 h.1).2 (sgsC.err _ _ h0)
  · exact ⟨Nat.zero_le _, Nat.zero_le _⟩
theorem store_new {w W : World} {D : Dc} {z : Sl} (hW : (w.alloc (.cells #[.int .i64 0, .int .i64 0, .int .i64 0, .slice none 0 0, .int .i64 0, .slice none 0 0, .int .i64 0, .slice none 0 0, .int .i64 0, .slice none 0 0, .int .i64 0, .slice none 0 0, .int .i64 0, .string ⟨#[]⟩, .string ⟨#[]⟩, .slice none 0 0, .string ⟨#[]⟩, .int .i64 0, .string ⟨#[]⟩, .int .i64 0, .string ⟨#[]⟩] 30)).setCells w.heap.size 0 (docL D z) = W) : Below w.heap.size w W ∧ Pk.Blk W w.heap.size (docL D z) 30 := by
  have hb := Pk.Blk.new w (docL dc0 zz0) 30
  refine ⟨?_, by rw [← hW]; exact blk_all hb rfl⟩
  have hc : Pk.Chg (fun k => k = w.heap.size) (w.alloc (.cells #[.int .i64 0, .int .i64 0, .int .i64 0, .slice none 0 0, .int .i64 0, .slice none 0 0, .int .i64 0, .slice none 0 0, .int .i64 0, .slice none 0 0, .int .i64 0, .slice none 0 0, .int .i64 0, .string ⟨#[]⟩, .string ⟨#[]⟩, .slice none 0 0, .string ⟨#[]⟩, .int .i64 0, .string ⟨#[]⟩, .int .i64 0, .string ⟨#[]⟩] 30)) W := by rw [← hW]; exact chg_setCells (S := fun k => k = w.heap.size) rfl _ _ _ (Pk.Chg.refl _ _)
  have h1 : Below w.heap.size w (w.alloc (.cells #[.int .i64 0, .int .i64 0, .int .i64 0, .slice none 0 0, .int .i64 0, .slice none 0 0, .int .i64 0, .slice none 0 0, .int .i64 0, .slice none 0 0, .int .i64 0, .slice none 0 0, .int .i64 0, .string ⟨#[]⟩, .string ⟨#[]⟩, .slice none 0 0, .string ⟨#[]⟩, .int .i64 0, .string ⟨#[]⟩, .int .i64 0, .string ⟨#[]⟩] 30)) := bel_alloc _ _
  exact h1.trans (hc.below h1.size fun _ hi => by rw [hi]; exact Nat.le_refl _)
theorem results_doc3 {P : Program} {fn : Func} {tmps : Array Value} {a t2 t3 : Nat} {b2 : Addr} {t : TypeId} {v u x : Value} {w : World} (hr : fn.results = #[.cell a t, .tmp t2, .tmp t3]) (ha : tmps.getD a undef = .pointer (some b2)) (hl : (loadVar t b2).run P w = .ok v w) (hu : tmps.getD t2 undef = u) (hx : tmps.getD t3 undef = x) : (results fn tmps).run P w = .ok (.tuple #[v, u, x]) w := by
  have e : (asAddr (tmps.getD a undef)).run P w = .ok b2 w := by rw [ha]; rfl
  unfold results
  rw [hr]
  simp only [Array.mapM_eq_mapM_toList, List.mapM_cons, List.mapM_nil, Sem.run_bind, Sem.run_pure, Sem.run_map, e, hl, hu, hx, Result.andThen_ok, bind_assoc, pure_bind]
  rfl
theorem all_take {p : SetM → Bool} {ss : List SetM} {i : Nat} (hi : i < ss.length) (h : p (ss.getD i default) = false) : ss.all p = false := by
  refine List.all_eq_false.2 ⟨ss.getD i default, ?_, by rw [h]; simp⟩
  rw [show ss.getD i default = ss[i] by simp [List.getD, hi]]
  exact List.getElem_mem _
theorem all_of {p : SetM → Bool} {ss : List SetM} (h : ∀ j, j < ss.length → p (ss.getD j default) = true) : ss.all p = true :=
  List.all_eq_true.2 fun x hx => by
    obtain ⟨i, hi, rfl⟩ := List.mem_iff_getElem.1 hx
    have := h i hi
    rwa [show ss.getD i default = ss[i] by simp [List.getD, hi]] at this
set_option maxHeartbeats 3200000 in
set_option maxRecDepth 100000 in
theorem open_any (s : ByteArray) (kind : Int) (a : Option Addr) (n c : Nat) (ss : List SetM) (B : Nat) (w : World) (hL : NL B w) (hB : B ≤ w.heap.size) (hv : SetsAt w (.slice a n c) ss) (hn : ss.length = n) (hm : n ≤ 1000) (hl : ∀ x ∈ ss, x.1.length ≤ maxLen) (hK : ss ≠ [] → ∀ w', Below w.heap.size w w' → KIs w') :
    Calls Tryz.prog 26 #[.string s, .int .i64 kind, .slice a n c] w fun e w' => OpS w.heap.size s.data.toList kind ss e w' ∧ Below w.heap.size w w' := by
  obtain ⟨W1, hW1, hB1, hS6⟩ := doc_new w dc0 zz0 30
  have hW1 : w.alloc (.cells #[.int .i64 0, .int .i64 0, .int .i64 0, .slice none 0 0, .int .i64 0, .slice none 0 0, .int .i64 0, .slice none 0 0, .int .i64 0, .slice none 0 0, .int .i64 0, .slice none 0 0, .int .i64 0, .string ⟨#[]⟩, .string ⟨#[]⟩, .slice none 0 0, .string ⟨#[]⟩, .int .i64 0, .string ⟨#[]⟩, .int .i64 0, .string ⟨#[]⟩] 30) = W1 := hW1
  obtain ⟨b6, hb6⟩ : ∃ b6, w.heap.size = b6 := ⟨_, rfl⟩
  rw [hb6] at hS6
  replace hS6 := Box.mk hS6
  have hq := unseal_any s W1
  obtain ⟨l, hle⟩ : ∃ l, s.data.toList = l := ⟨_, rfl⟩
  rw [hle] at hq ⊢
  replace hq := Box.mk hq
  have hLB := Box.mk fun (w' : World) (hb : Below w.heap.size w w') => (⟨hL.here hB hb, by have := hb.size; omega⟩ : NL B w' ∧ B ≤ w'.heap.size)
  have hvB := Box.mk hv
  have hnB := Box.mk hn
  have hlB := Box.mk hl
  have hKB := Box.mk hK
  clear hle hL hB hv hn hl hK
  have hul := uns_len l
  obtain ⟨U, hU⟩ : ∃ U, unsM l = U := ⟨_, rfl⟩
  have hu2 := uns_two l
  rw [hU] at hu2 hul
  have hop0 : opM l kind ss = if U.2.2 ≠ 0 then (dc0, ByteArray.empty, 3) else if (decM U.1.data.toList).2 ≠ 0 then (dc0, ByteArray.empty, 3) else if (decM U.1.data.toList).1.k ≠ kind then (dc0, ByteArray.empty, 1) else if ss.all (enS U.1 U.2.1) then ((decM U.1.data.toList).1, U.1, 0) else (dc0, ByteArray.empty, 9) := by rw [← hU] <;> rfl
  go_enter Tryz.func26, Tryz.ntmps26
  go_wp2_with fail
  refine hq.out.mono ?_
  clear hq
  rintro r w2 ⟨⟨a2, c2, rfl, hsg⟩, hbe⟩
  rw [hU] at hsg
  rw [hU]
  clear hU
  have hsg := Box.mk hsg
  have hbe := Box.mk hbe
  rcases hu2.symm with hu3 | hu0
  · subst hu3
    have hop : Box (opM l kind ss = (dc0, ByteArray.empty, 3)) := ⟨by rw [hop0] <;> rfl⟩
    have hrw := Box.mk (DcR.zero W1.heap.size w2)
    replace hS6 := Box.mk (blk_here hS6.out hbe.out)
    clear hop0 hsg hul
    go_wp2_with (first | (refine wpList_buildD rfl 30 [] rfl [] rfl (docL dc0 zz0) built_zero ?_) | (refine wpList_store_doc rfl (.tmp 6) (.tmp 23) rfl b6 dc0 zz0 rfl rfl hS6.out rfl ?_; intro wz hwz; replace hwz := Box.mk hwz))
    obtain ⟨z1, z2, z3⟩ := dec_end hb6 hB1.out hbe.out hS6.out hrw.out hwz.out
    have zl := load_doc z1
    exact bodyPost_ret (v := .tuple #[docV dc0 zz0, .string ByteArray.empty, .int .i64 3]) (results_doc3 Tryz.results26 rfl zl rfl rfl) rfl ⟨⟨zz0, by rw [hop.out] <;> rfl, by rw [hop.out]; exact z2⟩, z3⟩
  obtain ⟨body, sg, e0⟩ := U
  dsimp only at hu0 hop0 hul
  subst hu0
  have hop1 : opM l kind ss = if (decM body.data.toList).2 ≠ 0 then (dc0, ByteArray.empty, 3) else if (decM body.data.toList).1.k ≠ kind then (dc0, ByteArray.empty, 1) else if ss.all (enS body sg) then ((decM body.data.toList).1, body, 0) else (dc0, ByteArray.empty, 9) := by rw [hop0, if_neg (by simp)]
  clear hop0
  obtain ⟨hl1, hl2⟩ := hLB.out w2 (mono_bel hB1.out hbe.out (Nat.le_refl _))
  have hq := decode_any body B w2 hl1 hl2
  have hd2 := dec_two body.data.toList
  obtain ⟨DE, hDE⟩ : ∃ x, decM body.data.toList = x := ⟨_, rfl⟩
  unfold DecS at hq
  rw [hDE] at hq hd2 hop1
  obtain ⟨D, e1⟩ := DE
  dsimp only at hq hd2 hop1
  replace hq := Box.mk hq
  have hulB := Box.mk hul
  clear hDE hl1 hl2 hLB hul
  go_wp2_with fail
  refine hq.out.mono ?_
  clear hq
  rintro r w3 ⟨⟨z, rfl, hrz⟩, hb3⟩
  have hwe := Box.mk (@store_new w3)
  have hSz := Box.mk (Pk.Blk.new w3 (docL dc0 zz0) 30)
  have hrz3 := Box.mk (hrz.base (Nat.le_trans hbe.out.size (Nat.le_refl _)))
  replace hsg := Box.mk (hsg.out.below hb3)
  replace hbe := Box.mk (mono_bel hbe.out hb3 (Nat.le_refl _))
  clear hb3 hrz
  obtain ⟨bd, hbd⟩ : ∃ bd, w3.heap.size = bd := ⟨_, rfl⟩
  rw [hbd] at hSz
  have hSz : Box (Pk.Blk (w3.alloc (.cells #[.int .i64 0, .int .i64 0, .int .i64 0, .slice none 0 0, .int .i64 0, .slice none 0 0, .int .i64 0, .slice none 0 0, .int .i64 0, .slice none 0 0, .int .i64 0, .slice none 0 0, .int .i64 0, .string ⟨#[]⟩, .string ⟨#[]⟩, .slice none 0 0, .string ⟨#[]⟩, .int .i64 0, .string ⟨#[]⟩, .int .i64 0, .string ⟨#[]⟩] 30)) bd (docL dc0 zz0) 30) := hSz
  have hT : Box (∀ W, (w3.alloc (.cells #[.int .i64 0, .int .i64 0, .int .i64 0, .slice none 0 0, .int .i64 0, .slice none 0 0, .int .i64 0, .slice none 0 0, .int .i64 0, .slice none 0 0, .int .i64 0, .slice none 0 0, .int .i64 0, .string ⟨#[]⟩, .string ⟨#[]⟩, .slice none 0 0, .string ⟨#[]⟩, .int .i64 0, .string ⟨#[]⟩, .int .i64 0, .string ⟨#[]⟩] 30)).setCells bd 0 (docL D z) = W → Below w3.heap.size w3 W ∧ Pk.Blk W bd (docL D z) 30) := ⟨fun W h => by rw [← hbd] at h ⊢; exact hwe.out h⟩
  replace hS6 := Box.mk (blk_here hS6.out hbe.out)
  clear hwe
  rcases hd2.symm with hd3 | hd0
  · obtain ⟨rfl, rfl⟩ := Prod.mk.inj hd3
    have hop : Box (opM l kind ss = (dc0, ByteArray.empty, 3)) := ⟨by rw [hop1] <;> rfl⟩
    clear hop1 hd2 hd3 hrz3 hsg hulB
    go_wp2_with (first | (refine wpList_store_doc rfl (.tmp 12) (.tmp 28) rfl bd dc0 z (by first | rfl | (rw [← hbd]; rfl)) rfl hSz.out rfl ?_; intro w4 hw4; have hN := Box.mk (hT.out w4 hw4); have c0 := (doc_cells hN.out.2).1; clear hw4 hT hSz) | (refine wpList_buildD rfl 30 [] rfl [] rfl (docL dc0 zz0) built_zero ?_) | (refine wpList_store_doc rfl (.tmp 6) (.tmp 32) rfl b6 dc0 zz0 rfl rfl (blk_here hS6.out hN.out.1) rfl ?_; intro wz hwz; replace hwz := Box.mk hwz))
    obtain ⟨z1, z2, z3⟩ := dec_end hb6 hB1.out (mono_bel hbe.out hN.out.1 (Nat.le_refl _)) (blk_here hS6.out hN.out.1) (DcR.zero W1.heap.size w4) hwz.out
    have zl := load_doc z1
    exact bodyPost_ret (v := .tuple #[docV dc0 zz0, .string ByteArray.empty, .int .i64 3]) (results_doc3 Tryz.results26 rfl zl rfl rfl) rfl ⟨⟨zz0, by rw [hop.out] <;> rfl, by rw [hop.out]; exact z2⟩, z3⟩
  subst hd0
  have hop2 : opM l kind ss = if D.k ≠ kind then (dc0, ByteArray.empty, 1) else if ss.all (enS body sg) then (D, body, 0) else (dc0, ByteArray.empty, 9) := by rw [hop1, if_neg (by simp)]
  clear hop1 hd2
  by_cases hk : D.k ≠ kind
  · have hkd : (D.k != kind) = true := by simpa using hk
    have hop : Box (opM l kind ss = (dc0, ByteArray.empty, 1)) := ⟨by rw [hop2, if_pos hk]⟩
    clear hop2 hk hrz3 hsg hulB
    go_wp2_with (first | (refine wpList_store_doc rfl (.tmp 12) (.tmp 28) rfl bd D z (by first | rfl | (rw [← hbd]; rfl)) rfl hSz.out rfl ?_; intro w4 hw4; have hN := Box.mk (hT.out w4 hw4); have c0 := (doc_cells hN.out.2).1; clear hw4 hT hSz) | (refine wpList_buildD rfl 30 [] rfl [] rfl (docL dc0 zz0) built_zero ?_) | (refine wpList_store_doc rfl (.tmp 6) (.tmp 38) rfl b6 dc0 zz0 rfl rfl (blk_here hS6.out hN.out.1) rfl ?_; intro wz hwz; replace hwz := Box.mk hwz))
    obtain ⟨z1, z2, z3⟩ := dec_end hb6 hB1.out (mono_bel hbe.out hN.out.1 (Nat.le_refl _)) (blk_here hS6.out hN.out.1) (DcR.zero W1.heap.size w4) hwz.out
    have zl := load_doc z1
    exact bodyPost_ret (v := .tuple #[docV dc0 zz0, .string ByteArray.empty, .int .i64 1]) (results_doc3 Tryz.results26 rfl zl rfl rfl) rfl ⟨⟨zz0, by rw [hop.out] <;> rfl, by rw [hop.out]; exact z2⟩, z3⟩
  have hkd : (D.k != kind) = false := by simpa using hk
  have hop3 : opM l kind ss = if ss.all (enS body sg) then (D, body, 0) else (dc0, ByteArray.empty, 9) := by rw [hop2, if_neg hk]
  replace hop3 := Box.mk hop3
  clear hop2 hk
  go_wp2_with (refine wpList_store_doc rfl (.tmp 12) (.tmp 28) rfl bd D z (by first | rfl | (rw [← hbd]; rfl)) rfl hSz.out rfl ?_; intro w4 hw4; have hN := Box.mk (hT.out w4 hw4); have c0 := (doc_cells hN.out.2).1; clear hw4 hT hSz)
  have hB4 := Box.mk (mono_bel hbe.out hN.out.1 (Nat.le_refl _))
  replace hS6 := Box.mk (blk_here hS6.out hN.out.1)
  replace hsg := Box.mk (hsg.out.below hN.out.1)
  replace hrz3 := Box.mk (hrz3.out.below hN.out.1)
  have hvw := Box.mk (hvB.out.here (mono_bel hB1.out hB4.out (Nat.le_refl _)))
  have hBw := Box.mk (mono_bel hB1.out hB4.out (Nat.le_refl _))
  replace hN := Box.mk hN.out.2
  have hR0 : Box (Below w4.heap.size w4 w4) := ⟨Below.refl _ _⟩
  have hA0 : Box (∀ j, j < 0 → enS body sg (ss.getD j default) = true) := ⟨fun j hj => absurd hj (by omega)⟩
  clear hbe c0 hvB hbd
  go_loopw [41] (fun q wr => ∃ i : Nat, i ≤ n ∧ q = .int .i64 (i : Int) ∧ Box (∀ j, j < i → enS body sg (ss.getD j default) = true) ∧ Box (Below w4.heap.size w4 wr)) (fun q _ => n - (intOf q).toNat)
  case atStart => exact ⟨0, by omega, rfl, hA0, hR0⟩
  case round =>
    clear hA0 hR0
    obtain ⟨i, hi, rfl, hA, hR⟩ := hrel
    by_cases hlt : i < n
    · have hig : i < ss.length := by rw [hnB.out]; exact hlt
      obtain ⟨blk, off, rfl, x, k1, k2, k3⟩ := (hvw.out.here hR.out).at i hig
      have hle := hlB.out (ss.getD i default) (by rw [show ss.getD i default = ss[i] by simp [List.getD, hig]]; exact List.getElem_mem _)
      have hno := Box.mk fun h => all_take (p := enS body sg) hig h
      have hyes : ∀ b, enS body sg (ss.getD i default) = b → b = true → ∀ j, j < i + 1 → enS body sg (ss.getD j default) = true := fun b e eb j hj => by
        by_cases e2 : j = i
        · subst e2; rw [e, eb]
        · exact hA.out j (by omega)
      have hKr := hKB.out (by intro e; rw [e] at hig; simp at hig)
      obtain ⟨y, hy⟩ : ∃ y, ss.getD i default = y := ⟨_, rfl⟩
      rw [hy] at k1 k2 k3 hle hno hyes
      obtain ⟨ids, need⟩ := y
      dsimp only at k1 k2 k3 hle
      have hE : enS body sg (ids, need) = enB ids need body sg := rfl
      obtain ⟨eb, heb⟩ : ∃ b, enB ids need body sg = b := ⟨_, rfl⟩
      rw [hE, heb] at hno hyes
      have hyesB := Box.mk (hyes eb rfl)
      have hii : (i : Int) < (n : Int) := by omega
      clear hyes hig hy hE hA
      obtain ⟨wq, hwq⟩ : ∃ w, wr.alloc (.cells #[.slice x.1 ids.length x.2, .int .i64 need] 24) = w := ⟨_, rfl⟩
      have hbq : Below wr.heap.size wr wq := by rw [← hwq]; exact bel_alloc _ _
      have q0 : wq.cell? ⟨wr.heap.size, 0, none⟩ = some (.slice x.1 ids.length x.2) := by rw [← hwq]; exact (Pk.Blk.new wr [.slice x.1 ids.length x.2, .int .i64 need] 24).cell 0
      have q1 : wq.cell? ⟨wr.heap.size, 1, none⟩ = some (.int .i64 need) := by rw [← hwq]; exact (Pk.Blk.new wr [.slice x.1 ids.length x.2, .int .i64 need] 24).cell 1
      have hRq := Box.mk (mono_bel hR.out hbq (Nat.le_refl _))
      have hq := enough_any (.slice x.1 ids.length x.2) ids need body (.slice a2 sg.length c2) sg wq (k3.here hbq) hle ((hsg.out.below hRq.out).at_) (Nat.le_trans hulB.out.2 (by decide)) (hKr wq (mono_bel hBw.out hRq.out (Nat.le_refl _))) hulB.out.1
      clear hbq k3 hle hKr
      rw [heb] at hq
      replace hq := Box.mk hq
      clear heb
      cases eb with
      | true =>
        go_wp2_with fail
        refine hq.out.mono ?_
        clear hq
        rintro r w7 ⟨rfl, hb⟩
        have hR7 := Box.mk (mono_bel hRq.out hb (Nat.le_refl _))
        clear hb
        go_wp2_with fail
        exact ⟨⟨i + 1, by omega, by go_num, ⟨hyesB.out trivial⟩, hR7⟩, by simp [intOf]; omega⟩
      | false =>
        have hop : Box (opM l kind ss = (dc0, ByteArray.empty, 9)) := ⟨by rw [hop3.out, hno.out rfl]; rfl⟩
        go_wp2_with fail
        refine hq.out.mono ?_
        clear hq
        rintro r w7 ⟨rfl, hb⟩
        have hR7 := Box.mk (mono_bel hRq.out hb (Nat.le_refl _))
        clear hb hop3 hno hyesB
        go_wp2_with (first | (refine wpList_buildD rfl 30 [] rfl [] rfl (docL dc0 zz0) built_zero ?_) | (refine wpList_store_doc rfl (.tmp 6) (.tmp 50) rfl b6 dc0 zz0 rfl rfl (blk_here hS6.out hR7.out) rfl ?_; intro wz hwz; replace hwz := Box.mk hwz))
        obtain ⟨z1, z2, z3⟩ := dec_end hb6 hB1.out (mono_bel hB4.out hR7.out (Nat.le_refl _)) (blk_here hS6.out hR7.out) (DcR.zero W1.heap.size w7) hwz.out
        have zl := load_doc z1
        exact bodyPost_ret (v := .tuple #[docV dc0 zz0, .string ByteArray.empty, .int .i64 9]) (results_doc3 Tryz.results26 rfl zl rfl rfl) rfl ⟨⟨zz0, by rw [hop.out] <;> rfl, by rw [hop.out]; exact z2⟩, z3⟩
    · obtain rfl : i = n := by omega
      have hop : Box (opM l kind ss = (D, body, 0)) := ⟨by rw [hop3.out, all_of (fun j hj => hA.out j (by rw [← hnB.out]; exact hj))]; rfl⟩
      have hDr := Box.mk (blk_here hN.out hR.out)
      go_wp2_with (first | (refine wpList_loadG (by rfl) 30 (.tmp 12) rfl bd 0 rfl (docL D z) _ (blk_range hDr.out) Tryz.underlying30 rfl (doc_size _ _) ?_) | (refine wpList_store_doc rfl (.tmp 6) (.tmp 52) rfl b6 D z rfl rfl (blk_here hS6.out hR.out) rfl ?_; intro wz hwz; replace hwz := Box.mk hwz))
      obtain ⟨z1, z2, z3⟩ := dec_end hb6 hB1.out (mono_bel hB4.out hR.out (Nat.le_refl _)) (blk_here hS6.out hR.out) (hrz3.out.below hR.out) hwz.out
      have zl := load_doc z1
      exact bodyPost_ret (v := .tuple #[docV D z, .string body, .int .i64 0]) (results_doc3 Tryz.results26 rfl zl rfl rfl) rfl ⟨⟨z, by rw [hop.out] <;> rfl, by rw [hop.out]; exact z2⟩, z3⟩
end Go.Proofs.YtiblkfkeifnpaaaGreatDoor.Me
