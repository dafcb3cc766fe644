/- meta: MetaDocs walked. -/
import Derived.Test.YtiblkfkeifnpaaaGreatDoorZnc
import Derived.Test.YtiblkfkeifnpaaaGreatDoorZa6
set_option linter.all false
namespace Go.Proofs.YtiblkfkeifnpaaaGreatDoor.Me
open Go Go.RowKit Go.Proofs.YtiblkfkeifnpaaaGreatDoor Go.Proofs.YtiblkfkeifnpaaaGreatDoor.Nt
theorem rsum_one (s : ByteArray) (w : World) (hs : s.size ≤ 140737488354800) :
    Calls Tryz.prog 16 #[.slice (some ⟨w.heap.size, 0, none⟩) 1 1] (w.alloc (.cells #[.string s] 9)) fun e w' => e = .returned (.string (hashOf s.data.toList)) ∧ Below w.heap.size w w' := by
  have hW := (Below.refl w.heap.size w).alloc (Nat.le_refl _) (.cells #[.string s] 9)
  have hS := rsum_parts (.slice (some ⟨w.heap.size, 0, none⟩) 1 1) [s] (w.alloc (.cells #[.string s] 9)) ⟨some ⟨w.heap.size, 0, none⟩, 1, rfl, fun _ => ⟨w.heap.size, 0, rfl, by simp, fun i hi => by
    obtain rfl : i = 0 := by simpa using hi
    rw [World.cell?_alloc_at _ _ _ _ rfl]; rfl⟩⟩ (by rw [flat_one, data_len]; exact hs) (by simp)
  rw [flat_one] at hS
  exact hS.mono fun e w' h => ⟨h.1, mono_bel hW h.2 (Nat.le_refl _)⟩
theorem exec_loadD {P : Program} {o : Oper} {w : World} (ρ : Operand → Value) (ty : TypeId) (x : Operand) (ho : o.op = .load ty x) (b : Nat) (hx : ρ x = .pointer (some ⟨b, 0, none⟩)) (cs : List Value) (d : TypeDesc) (hc : w.rangeAt b 0 cs)
    (hu : P.underlying ty = some d) (hd : d.isRow = true) (hi : (P.info? ty).map (·.size) = some cs.length) : (execOp ρ o).run P w = .ok (.value (.agg cs.toArray)) w := by
  unfold execOp
  simp only [ho, hx, Instr.loadAt, Instr.sureAddr, Sem.run_bind, Sem.run_pure, Result.andThen_ok, run_loadVar_mid w b 0 ty cs d hc hu hd hi]
set_option maxHeartbeats 3200000 in
set_option maxRecDepth 100000 in
theorem hash_any (x : ByteArray) (w : World) (hK : KIs w) (hs : x.size ≤ 1152921504606846976) :
    Calls Tryz.prog 15 #[.string x] w fun e w' => e = .returned (.string (hashOf x.data.toList)) ∧ Below w.heap.size w w' := by
  have hq := sum_one x w hK hs
  go_enter Tryz.func15, Tryz.ntmps15
  go_wp2_with fail
  refine hq.mono ?_
  clear hq
  rintro r w2 ⟨rfl, hb⟩
  replace hb := Box.mk hb
  go_wp2_with fail
  go_ret
  exact ⟨rfl, hb.out⟩
theorem dec_ok {l : List UInt8} : DcOk (decM l).1 := by
  unfold decM
  split
  · exact rd_len l 0
  · exact ⟨Nat.zero_le _, Nat.zero_le _, Nat.zero_le _, Nat.zero_le _, Nat.zero_le _, Nat.zero_le _, Nat.zero_le _, Nat.zero_le _, Nat.zero_le _⟩
theorem DcR.chgB {S : Nat → Prop} {B : Nat} {w w' : World} {z : Sl} {d : Dc} (h : DcR B w z d) (hc : Pk.Chg S w w') (hS : ∀ k, S k → k < B) : DcR B w' z d := by
  have f : ∀ {v : Value} {ids : List ByteArray}, TxR B w v ids → TxR B w' v ids := fun hr => hr.chg hc fun k hk e => by have := hS k e; have := (hr.own k hk).1; omega
  exact ⟨f h.p0, f h.p1, f h.p2, f h.p3, f h.pw, h.pl.chg hc fun k hk e => by have := hS k e; have := h.pl.own k hk; omega⟩
structure Spoil (B C b11 b13 : Nat) (D : Dc) (z1 z2 : Sl) (w0 w : World) : Prop where
  bel : Below B w0 w
  siz : B ≤ w.heap.size
  a : Pk.Blk w b11 (docL D z1) 30
  c : Pk.Blk w b13 (docL D z2) 30
  r : DcR C w z2 D
  p : ∃ xs, Pk.Row w 42 3 (.slice z1.al.1 D.f.ls.length z1.al.2) D.f.ls.length xs
  q : ∃ xs, Pk.Row w 9 1 (.slice z1.aw.1 D.f.wt.1.length z1.aw.2) D.f.wt.1.length xs
  po : ∀ k, (Value.slice z1.al.1 D.f.ls.length z1.al.2).ownBlock = some k → B ≤ k ∧ k < C
  qo : ∀ k, (Value.slice z1.aw.1 D.f.wt.1.length z1.aw.2).ownBlock = some k → B ≤ k ∧ k < C
theorem Spoil.atP {B C b11 b13 : Nat} {D : Dc} {z1 z2 : Sl} {w0 w : World} (h : Spoil B C b11 b13 D z1 z2 w0 w) (i : Nat) (hi : i < D.f.ls.length) :
    ∃ (g : Nat) (c : Nat) (u : Value), w.cell? ⟨b11, 15, none⟩ = some (.slice (some ⟨g, 0, none⟩) D.f.ls.length c) ∧ w.cell? ⟨g, i * 3 + 2, none⟩ = some u ∧ w.frozen? ⟨g, i * 3 + 2, none⟩ = false ∧
      ∀ v, Spoil B C b11 b13 D z1 z2 w0 (w.setCell ⟨g, i * 3 + 2, none⟩ v) := by
  obtain ⟨xs, hp⟩ := h.p
  obtain ⟨ys, hq⟩ := h.q
  obtain ⟨g, c, e, hg⟩ := hp.some (by omega)
  have hn := hp.unlike hq (by decide) g (by rw [e]; rfl)
  have hl : xs.length = D.f.ls.length * 3 := hp.1
  have ho := h.po g (by rw [e]; rfl)
  have h1 : b11 ≠ g := fun e2 => hp.apart h.a (by decide) (by rw [e, e2]; rfl)
  have h3 : b13 ≠ g := fun e2 => hp.apart h.c (by decide) (by rw [e, e2]; rfl)
  have hc15 := h.a.cell 15
  obtain ⟨u, hu⟩ : ∃ u, xs[i * 3 + 2]? = some u := ⟨_, List.getElem?_eq_getElem (by omega)⟩
  have hp' := hp
  rw [e] at hp'
  refine ⟨g, c, u, ?_, hp'.cells _ _ hu, Row_free hp' _, fun v => ?_⟩
  · rw [hc15, ← e]; rfl
  · have hch : Pk.Chg (fun k => k = g) w (w.setCell ⟨g, i * 3 + 2, none⟩ v) := Pk.Chg.setCell (S := fun k => k = g) (Pk.Chg.refl _ w) (p := ⟨g, i * 3 + 2, none⟩) rfl v
    exact ⟨h.bel.trans (hch.below h.siz fun k hk => by have hk : k = g := hk; omega), Nat.le_trans h.siz hch.size, hch.blk h.a h1, hch.blk h.c h3, h.r.chgB hch fun k hk => by have hk : k = g := hk; omega,
      ⟨_, by rw [e]; exact Row_put hp' _ v⟩, ⟨ys, hq.chg hch fun k hk e2 => by have e2 : k = g := e2; exact hn (e2 ▸ hk)⟩, h.po, h.qo⟩
theorem Spoil.atQ {B C b11 b13 : Nat} {D : Dc} {z1 z2 : Sl} {w0 w : World} (h : Spoil B C b11 b13 D z1 z2 w0 w) (i : Nat) (hi : i < D.f.wt.1.length) :
    ∃ (g : Nat) (c : Nat) (u : Value), w.cell? ⟨b11, 11, none⟩ = some (.slice (some ⟨g, 0, none⟩) D.f.wt.1.length c) ∧ w.cell? ⟨g, i, none⟩ = some u ∧ w.frozen? ⟨g, i, none⟩ = false ∧
      ∀ v, Spoil B C b11 b13 D z1 z2 w0 (w.setCell ⟨g, i, none⟩ v) := by
  obtain ⟨xs, hp⟩ := h.q
  obtain ⟨ys, hq⟩ := h.p
  obtain ⟨g, c, e, hg⟩ := hp.some (by omega)
  have hn := hp.unlike hq (by decide) g (by rw [e]; rfl)
  have hl : xs.length = D.f.wt.1.length * 1 := hp.1
  have ho := h.qo g (by rw [e]; rfl)
  have h1 : b11 ≠ g := fun e2 => hp.apart h.a (by decide) (by rw [e, e2]; rfl)
  have h3 : b13 ≠ g := fun e2 => hp.apart h.c (by decide) (by rw [e, e2]; rfl)
  have hc15 := h.a.cell 11
  obtain ⟨u, hu⟩ : ∃ u, xs[i]? = some u := ⟨_, List.getElem?_eq_getElem (by omega)⟩
  have hp' := hp
  rw [e] at hp'
  refine ⟨g, c, u, ?_, hp'.cells _ _ hu, Row_free hp' _, fun v => ?_⟩
  · rw [hc15, ← e]; rfl
  · have hch : Pk.Chg (fun k => k = g) w (w.setCell ⟨g, i, none⟩ v) := Pk.Chg.setCell (S := fun k => k = g) (Pk.Chg.refl _ w) (p := ⟨g, i, none⟩) rfl v
    exact ⟨h.bel.trans (hch.below h.siz fun k hk => by have hk : k = g := hk; omega), Nat.le_trans h.siz hch.size, hch.blk h.a h1, hch.blk h.c h3, h.r.chgB hch fun k hk => by have hk : k = g := hk; omega,
      ⟨ys, hq.chg hch fun k hk e2 => by have e2 : k = g := e2; exact hn (e2 ▸ hk)⟩, ⟨_, by rw [e]; exact Row_put hp' _ v⟩, h.po, h.qo⟩
theorem Spoil.lenP {B C b11 b13 : Nat} {D : Dc} {z1 z2 : Sl} {w0 w : World} (h : Spoil B C b11 b13 D z1 z2 w0 w) : w.cell? ⟨b11, 15, none⟩ = some (.slice z1.al.1 D.f.ls.length z1.al.2) := h.a.cell 15
theorem Spoil.lenQ {B C b11 b13 : Nat} {D : Dc} {z1 z2 : Sl} {w0 w : World} (h : Spoil B C b11 b13 D z1 z2 w0 w) : w.cell? ⟨b11, 11, none⟩ = some (.slice z1.aw.1 D.f.wt.1.length z1.aw.2) := h.a.cell 11
set_option maxHeartbeats 3200000 in
set_option maxRecDepth 100000 in
theorem law_docs (d : Dc) (z : Sl) (body : ByteArray) (B : Nat) (w : World) (hL : NL B w) (hB : B ≤ w.heap.size) (hK : KIs w) (hv : DcAt w z d) (ho : DcOk d) (hbs : body.size ≤ 140737488340000) :
    Calls Tryz.prog 3 #[docV d z, .string body] w fun e w' => e = .returned (.bool true) ∧ Below w.heap.size w w' := by
  obtain ⟨W1, hW1, hB1, hS1⟩ := doc_new w d z 30
  obtain ⟨b, hb⟩ : ∃ b, w.heap.size = b := ⟨_, rfl⟩
  rw [hb] at hS1
  replace hS1 := Box.mk hS1
  have hLB := Box.mk fun (w' : World) (hb : Below w.heap.size w w') => (⟨hL.here hB hb, by have := hb.size; omega⟩ : NL B w' ∧ B ≤ w'.heap.size)
  have hKB := Box.mk fun (w' : World) (hb : Below w.heap.size w w') => hK.below hb hK.lt
  have hvB := Box.mk hv
  have hoB := Box.mk ho
  obtain ⟨hl1, hl2⟩ := hLB.out W1 hB1.out
  have hq := seals_any B W1 hl1 hl2
  obtain ⟨sx, hsx⟩ : ∃ x, (encV d).1 = x := ⟨_, rfl⟩
  obtain ⟨ee, hee⟩ : ∃ x, (encV d).2 = x := ⟨_, rfl⟩
  have hE : encR d = .tuple #[.string sx, .int .i64 ee] := by unfold encR; rw [hsx, hee]
  have hsz : sx.size ≤ 5000 := by
    rw [← hsx]; unfold encV
    by_cases h : chkD d = true
    · rw [if_pos h, Pk.mk_size]; exact layD_len h
    · rw [if_neg h]; exact Nat.zero_le _
  have hec : chkDE d = if ee = 0 then 0 else 1 := by
    rw [← hee]; unfold chkDE encV
    by_cases h : chkD d = true
    · rw [if_pos h, if_pos h]; rfl
    · rw [if_neg h, if_neg h]; rfl
  have hsum : sx.size + body.size ≤ 9223372036854775807 := by omega
  have hcat := Box.mk fun (w' : World) => run_string_add_sum (P := Tryz.prog) (w := w') sx body hsum
  obtain ⟨sy, hsy⟩ : ∃ x, sx ++ body = x := ⟨_, rfl⟩
  have hszy : sy.size ≤ 140737488350000 := by rw [← hsy, ByteArray.size_append]; omega
  rw [hsy] at hcat
  have hszs := Box.mk (And.intro hsz (And.intro hbs hszy))
  have hEB := Box.mk hE
  have hecB := Box.mk hec
  clear hL hB hK hv ho hl1 hl2 hsx hee hE hsz hec hsum hsy hszy hbs
  show Calls _ _ #[.agg (docL _ z).toArray, .string body] w _
  go_enter Tryz.func3, Tryz.ntmps3
  go_wp2_with fail
  refine hq.mono ?_
  clear hq
  rintro r w2 ⟨rfl, hbe⟩
  have hB2 := Box.mk (mono_bel hB1.out hbe (Nat.le_refl _))
  have hS2 := doc_here hS1 hbe
  clear hbe hB1 hS1
  obtain ⟨hl1, hl2⟩ := hLB.out w2 hB2.out
  have hq := encode_any d z B w2 hl1 hl2 (hvB.out.here hB2.out) hoB.out
  rw [hEB.out] at hq
  clear hl1 hl2
  go_wp2_with (refine wpList_loadG (by rfl) 30 (.tmp 2) rfl b 0 rfl (docL d z) _ (blk_range hS2.out) Tryz.underlying30 rfl (doc_size _ _) ?_)
  refine hq.mono ?_
  clear hq
  rintro r w3 ⟨rfl, hbe⟩
  have hB3 := Box.mk (mono_bel hB2.out hbe (Nat.le_refl _))
  have hS3 := doc_here hS2 hbe
  clear hbe hB2 hS2
  obtain ⟨hl1, hl2⟩ := hLB.out w3 hB3.out
  have hq := rencode_any d z B w3 hl1 hl2 (hvB.out.here hB3.out) hoB.out
  rw [hEB.out] at hq
  clear hl1 hl2 hEB
  go_wp2_with (refine wpList_loadG (by rfl) 30 (.tmp 2) rfl b 0 rfl (docL d z) _ (blk_range hS3.out) Tryz.underlying30 rfl (doc_size _ _) ?_)
  refine hq.mono ?_
  clear hq
  rintro r w4 ⟨rfl, hbe⟩
  have hB4 := Box.mk (mono_bel hB3.out hbe (Nat.le_refl _))
  have hS4 := doc_here hS3 hbe
  clear hbe hB3 hS3
  have qC := Box.mk fun (w' : World) (h : Below w4.heap.size w4 w') => mcheck_any d z B w' (hLB.out w' (mono_bel hB4.out h (Nat.le_refl _))).1 (hLB.out w' (mono_bel hB4.out h (Nat.le_refl _))).2 (hvB.out.here (mono_bel hB4.out h (Nat.le_refl _))) hoB.out
  have qR := Box.mk fun (w' : World) (h : Below w4.heap.size w4 w') => mrcheck_any d z B w' (hLB.out w' (mono_bel hB4.out h (Nat.le_refl _))).1 (hLB.out w' (mono_bel hB4.out h (Nat.le_refl _))).2 (hvB.out.here (mono_bel hB4.out h (Nat.le_refl _))) hoB.out
  obtain ⟨ce, hce⟩ : ∃ x, chkDE d = x := ⟨_, rfl⟩
  rw [hce] at qC qR hecB
  have gD : Box (∀ w', Below w4.heap.size w4 w' → w'.rangeAt b 0 (docL d z)) := ⟨fun w' h => blk_range (blk_here hS4.out h)⟩
  have hcd := Box.mk hce
  clear hce
  go_wp2_with fail
  refine region_quiet (fun w' => Below w4.heap.size w4 w') rfl (by kernel_rfl) (Drawn.below ⟨1, rfl⟩) ?_
  repeat (go_big_quiet_step (first | exact fun _ => rfl | rfl))
  refine quiet_val rfl (.agg (docL d z).toArray) (fun w' hw' => exec_loadD _ 30 (.tmp 2) rfl b rfl (docL d z) _ (gD.out w' hw') Tryz.underlying30 rfl (doc_size _ _)) ?_
  simp only [Act.put, List.setIfInBounds_toArray, List.set_cons_succ, List.set_cons_zero]
  repeat (go_big_quiet_step (first | exact fun _ => rfl | rfl))
  refine quiet_call rfl (.int .i64 ce) (fun w' hw' => (qC.out w' hw').mono fun e w2 h => ⟨h.1, mono_bel hw' h.2 (Nat.le_refl _)⟩) (fun w' _ => by go_simp; try rfl) ?_
  simp only [Act.put, List.setIfInBounds_toArray, List.set_cons_succ, List.set_cons_zero]
  repeat (go_big_quiet_step (first | exact fun _ => rfl | rfl))
  refine quiet_val rfl (.agg (docL d z).toArray) (fun w' hw' => exec_loadD _ 30 (.tmp 2) rfl b rfl (docL d z) _ (gD.out w' hw') Tryz.underlying30 rfl (doc_size _ _)) ?_
  simp only [Act.put, List.setIfInBounds_toArray, List.set_cons_succ, List.set_cons_zero]
  repeat (go_big_quiet_step (first | exact fun _ => rfl | rfl))
  refine quiet_call rfl (.int .i64 ce) (fun w' hw' => (qR.out w' hw').mono fun e w2 h => ⟨h.1, mono_bel hw' h.2 (Nat.le_refl _)⟩) (fun w' _ => by go_simp; try rfl) ?_
  simp only [Act.put, List.setIfInBounds_toArray, List.set_cons_succ, List.set_cons_zero]
  repeat (go_big_quiet_step (first | exact fun _ => rfl | rfl))
  refine wpQuiet_nil ?_
  intro w5 hw5
  have hB5 := Box.mk (mono_bel hB4.out hw5 (Nat.le_refl _))
  have hS5 := doc_here hS4 hw5
  have hcat5 := hcat.out w5
  clear hw5 hB4 hS4 qC qR gD hcat
  obtain ⟨w6, hw6⟩ : ∃ x, w5.alloc (.cells #[.string body, .string sx, .string sy] 9) = x := ⟨_, rfl⟩
  have hb6 : Below w5.heap.size w5 w6 := by rw [← hw6]; exact bel_alloc _ _
  have hQ6 : Box (Pk.Blk w6 w5.heap.size [.string body, .string sx, .string sy] 9) := ⟨by rw [← hw6]; exact Pk.Blk.new w5 [.string body, .string sx, .string sy] _⟩
  have hB6 := Box.mk (mono_bel hB5.out hb6 (Nat.le_refl _))
  have hS6 := doc_here hS5 hb6
  obtain ⟨bq, hbq⟩ : ∃ x, w5.heap.size = x := ⟨_, rfl⟩
  rw [hbq] at hQ6
  clear hb6 hB5 hS5
  go_wp2_with fail
  have hR0 : Box (Below w6.heap.size w6 w6) := ⟨Below.refl _ _⟩
  have hxs : Box (∀ i, i < 3 → ∃ x : ByteArray, x.size ≤ 140737488350000 ∧ ∀ w', Below w6.heap.size w6 w' → w'.cell? ⟨bq, i, none⟩ = some (.string x)) := ⟨fun i hi => by
    have h1 := hszs.out
    rcases (show i = 0 ∨ i = 1 ∨ i = 2 by omega) with rfl | rfl | rfl
    · exact ⟨body, by omega, fun w' h => (blk_here hQ6.out h).cell 0⟩
    · exact ⟨sx, by omega, fun w' h => (blk_here hQ6.out h).cell 1⟩
    · exact ⟨sy, by omega, fun w' h => (blk_here hQ6.out h).cell 2⟩⟩
  clear hszs hcat5 hQ6
  go_loopw [55] (fun q wr => ∃ i : Nat, i ≤ 3 ∧ q = .int .i64 (i : Int) ∧ Box (Below w6.heap.size w6 wr)) (fun q _ => 3 - (intOf q).toNat)
  case atStart => exact ⟨0, by omega, rfl, hR0⟩
  case round =>
    clear hR0
    obtain ⟨i, hi, rfl, hR⟩ := hrel
    by_cases hlt : i < 3
    · obtain ⟨x, hxz, hxc⟩ := hxs.out i hlt
      have cX := hxc wr hR.out
      have hii : (i : Int) < 3 := by omega
      obtain ⟨l, hle⟩ : ∃ l, x.data.toList = l := ⟨_, rfl⟩
      have hBr := Box.mk (mono_bel hB6.out hR.out (Nat.le_refl _))
      have hok := @dec_ok l
      have htl := @dec_told l
      have q1 := Box.mk fun (w' : World) (h : Below w.heap.size w w') => decode_any x B w' (hLB.out w' h).1 (hLB.out w' h).2
      have q2 := Box.mk fun (w' : World) (h : Below w.heap.size w w') => rdecode_any x B w' (hLB.out w' h).1 (hLB.out w' h).2
      have q3 := Box.mk fun (w' : World) (h : Below w.heap.size w w') => hash_any x w' (hKB.out w' h) (by omega)
      have q4 := Box.mk fun (w' : World) => rsum_one x w' (by omega)
      unfold DecS at q1 q2
      rw [hle] at q1 q2 q3 q4
      obtain ⟨DE, hDE⟩ : ∃ D, decM l = D := ⟨_, rfl⟩
      rw [hDE] at q1 q2 hok htl
      obtain ⟨D, e1⟩ := DE
      dsimp only at q1 q2 hok htl
      have hxd : x = Pk.btx l := by rw [← hle, Pk.mk_data]
      have hback : Box (e1 = 0 → encR D = .tuple #[.string x, .int .i64 0]) := ⟨fun h0 => by
        obtain ⟨t1, t2⟩ := htl h0
        unfold encR encV; rw [t1, t2, hxd]; rfl⟩
      have hokB := Box.mk hok
      clear hDE hok htl hxd hle hxc hi hlt
      have hq := Box.mk (q1.out wr hBr.out)
      go_wp2_with fail
      refine hq.out.mono ?_
      clear hq cX
      rintro r w7 ⟨⟨z1, rfl, hr1⟩, hbe⟩
      have hR7 := Box.mk hbe
      have hr1 := Box.mk hr1
      clear hbe
      obtain ⟨b11, hb11, hZ11, hT11⟩ := @store_var w7 D z1
      go_wp2_with (refine wpList_store_doc rfl (.tmp 11) (.tmp 62) rfl b11 D z1 (by first | rfl | (rw [← hb11]; rfl)) rfl hZ11.out rfl ?_; intro w8 hw8; have hM := Box.mk (hT11.out w8 hw8); clear hw8 hT11 hZ11)
      have hR8 := Box.mk (mono_bel hR7.out hM.out.1 (Nat.le_refl _))
      have hr8 := Box.mk (hr1.out.below hM.out.1)
      have h11 := Box.mk hM.out.2
      have hq := Box.mk (q2.out w8 (mono_bel hBr.out hR8.out (Nat.le_refl _)))
      clear hM hR7 hr1 hb11
      refine hq.out.mono ?_
      clear hq q2
      rintro r w9 ⟨⟨z2, rfl, hr2⟩, hbe⟩
      have hR9 := Box.mk (mono_bel hR8.out hbe (Nat.le_refl _))
      have hr9 := Box.mk (hr8.out.below hbe)
      have h11b := Box.mk (blk_here h11.out hbe)
      have hr2 := Box.mk hr2
      have hsz9 := Box.mk hbe.size
      have h11lt := Box.mk h11.out.lt
      have hown : Box ((∀ k, (Value.slice z1.al.1 D.f.ls.length z1.al.2).ownBlock = some k → wr.heap.size ≤ k ∧ k < w8.heap.size) ∧ (∀ k, (Value.slice z1.aw.1 D.f.wt.1.length z1.aw.2).ownBlock = some k → wr.heap.size ≤ k ∧ k < w8.heap.size)) := ⟨⟨fun k hk => ⟨hr8.out.pl.own k hk, hr8.out.pl.row.lt k hk⟩, fun k hk => hr8.out.pw.own k hk⟩⟩
      clear hbe h11 hr8
      obtain ⟨b13, hb13, hZ13, hT13⟩ := @store_var w9 D z2
      have hq3 := Box.mk fun (w' : World) (h : Below w9.heap.size w9 w') => q3.out w' (mono_bel hBr.out (mono_bel hR9.out h (Nat.le_refl _)) (Nat.le_refl _))
      have hqs := Box.mk fun (w' : World) (h : Below w9.heap.size w9 w') => same_doc D z1 z2 w' (hr9.out.below h).at_ (hr2.out.below h).at_ hokB.out
      clear q3
      go_wp2_with (first
        | (refine wpList_store_doc rfl (.tmp 13) (.tmp 67) rfl b13 D z2 (by first | rfl | (rw [← hb13]; rfl)) rfl hZ13.out rfl ?_; intro w10 hw10; have hM := Box.mk (hT13.out w10 hw10); clear hw10 hT13 hZ13)
        | (refine wpList_loadG (by rfl) 30 (.tmp 11) rfl b11 0 rfl (docL D z1) _ (blk_range (blk_here h11b.out hM.out.1)) Tryz.underlying30 rfl (doc_size _ _) ?_)
        | (refine wpList_loadG (by rfl) 30 (.tmp 13) rfl b13 0 rfl (docL D z2) _ (blk_range hM.out.2) Tryz.underlying30 rfl (doc_size _ _) ?_))
      have hq := Box.mk (hqs.out w10 hM.out.1)
      refine hq.out.mono ?_
      clear hq hqs
      rintro r w11 ⟨rfl, hbe⟩
      have hR11 := Box.mk (mono_bel hM.out.1 hbe (Nat.le_refl _))
      have h13 := Box.mk (blk_here hM.out.2 hbe)
      have hq := Box.mk (hq3.out w11 hR11.out)
      clear hbe hM hq3
      go_wp2_with fail
      refine hq.out.mono ?_
      clear hq
      rintro r w12 ⟨rfl, hbe⟩
      have hR12 := Box.mk (mono_bel hR11.out hbe (Nat.le_refl _))
      have h13b := Box.mk (blk_here h13.out hbe)
      have hq := Box.mk (q4.out w12)
      clear hbe h13 hR11 q4
      go_wp2_with fail
      refine hq.out.mono ?_
      clear hq
      rintro r w13 ⟨rfl, hbe⟩
      have hR13 := Box.mk (mono_bel hR12.out hbe (Nat.le_refl _))
      have h13c := Box.mk (blk_here h13b.out hbe)
      clear hbe h13b hR12
      by_cases he : e1 = 0
      · subst he
        have hen : ((0 : Int) != 0) = false := rfl
        have hRa := Box.mk (mono_bel hR9.out hR13.out (Nat.le_refl _))
        have hBa := Box.mk (mono_bel hBr.out hRa.out (Nat.le_refl _))
        have h9s := Box.mk (hR13.out.size)
        have hEa := hback.out rfl
        have hra := Box.mk (hr9.out.below hR13.out)
        have hrb := Box.mk (hr2.out.below hR13.out)
        have h11c := Box.mk (blk_here h11b.out hR13.out)
        clear hback hR9 hr9 hr2 h11b hen
        obtain ⟨hl1, hl2⟩ := hLB.out w13 hBa.out
        have hq := encode_any D z1 B w13 hl1 hl2 hra.out.at_ hokB.out
        rw [hEa] at hq
        clear hl1 hl2 hEa
        go_wp2_with (refine wpList_loadG (by rfl) 30 (.tmp 11) rfl b11 0 rfl (docL D z1) _ (blk_range h11c.out) Tryz.underlying30 rfl (doc_size _ _) ?_)
        refine hq.mono ?_
        clear hq
        rintro r w14 ⟨rfl, hbe⟩
        have hSp : Box (Spoil wr.heap.size w8.heap.size b11 b13 D z1 z2 wr w14) := ⟨by
          have h14 := hra.out.below hbe
          exact ⟨mono_bel hRa.out hbe (Nat.le_refl _), Nat.le_trans hRa.out.size hbe.size, blk_here h11c.out hbe, blk_here h13c.out hbe, hrb.out.below hbe, ⟨_, h14.pl.row⟩, ⟨_, h14.pw.base (Nat.zero_le _)⟩, hown.out.1, hown.out.2⟩⟩
        clear hbe hRa hBa hra hrb h11c h13c hR13
        have hn1 : D.f.ls.length ≤ 9223372036854775807 := Nat.le_trans hokB.out.ll (by decide)
        have hn2 : D.f.wt.1.length ≤ 9223372036854775807 := Nat.le_trans hokB.out.lw (by decide)
        have c15 := hSp.out.lenP
        go_wp2_with fail
        clear c15 hown
        obtain ⟨wo, ho⟩ : ∃ v, v = wr := ⟨wr, rfl⟩
        subst ho
        go_loopw [103] (fun q wq => ∃ i : Nat, i ≤ D.f.ls.length ∧ q = .int .i64 (i : Int) ∧ Box (Spoil wo.heap.size w8.heap.size b11 b13 D z1 z2 wo wq)) (fun q _ => D.f.ls.length - (intOf q).toNat)
        case atStart => exact ⟨0, Nat.zero_le _, rfl, hSp⟩
        case round =>
          clear hSp
          obtain ⟨j, hj, rfl, hSq⟩ := hrel
          by_cases hlt : j < D.f.ls.length
          · obtain ⟨g, c, u, k1, k2, k3, hput⟩ := hSq.out.atP j hlt
            have hii : (j : Int) < (D.f.ls.length : Int) := by omega
            have hput := Box.mk hput
            clear hSq
            go_wp2_with fail
            exact ⟨⟨j + 1, by omega, by go_num, ⟨hput.out _⟩⟩, by simp [intOf]; omega⟩
          · obtain rfl : j = D.f.ls.length := by omega
            have c11 := hSq.out.lenQ
            clear hlt hj
            go_wp2_with fail
            clear c11
            obtain ⟨wp, hp⟩ : ∃ v, v = wr := ⟨wr, rfl⟩
            subst hp
            go_loopw [116] (fun q wq => ∃ i : Nat, i ≤ D.f.wt.1.length ∧ q = .int .i64 (i : Int) ∧ Box (Spoil wo.heap.size w8.heap.size b11 b13 D z1 z2 wo wq)) (fun q _ => D.f.wt.1.length - (intOf q).toNat)
            case atStart => exact ⟨0, Nat.zero_le _, rfl, hSq⟩
            case round =>
              clear hSq
              obtain ⟨j, hj, rfl, hSr⟩ := hrel
              by_cases hlt : j < D.f.wt.1.length
              · obtain ⟨g, c, u, k1, k2, k3, hput⟩ := hSr.out.atQ j hlt
                have hii : (j : Int) < (D.f.wt.1.length : Int) := by omega
                have hput := Box.mk hput
                clear hSr
                go_wp2_with fail
                exact ⟨⟨j + 1, by omega, by go_num, ⟨hput.out _⟩⟩, by simp [intOf]; omega⟩
              · obtain rfl : j = D.f.wt.1.length := by omega
                clear hlt hj
                have hbl := Box.mk hSr.out.bel
                have hq := Box.mk (q1.out wr (mono_bel hBr.out hbl.out (Nat.le_refl _)))
                have hc := Box.mk hSr.out.c
                have hrz := Box.mk hSr.out.r
                clear hSr
                go_wp2_with fail
                refine hq.out.mono ?_
                clear hq q1
                rintro r wa ⟨⟨z3, rfl, hr3⟩, hbe⟩
                have hRA := Box.mk (mono_bel hbl.out hbe (Nat.le_refl _))
                have h13d := Box.mk (blk_here hc.out hbe)
                have hrz2 := Box.mk (hrz.out.below hbe)
                have hr3 := Box.mk hr3
                clear hbe hc hrz hbl
                obtain ⟨b19, hb19, hZ19, hT19⟩ := @store_var wa D z3
                have hqs := Box.mk fun (w' : World) (h : Below wa.heap.size wa w') => same_doc D z3 z2 w' (hr3.out.below h).at_ (hrz2.out.below h).at_ hokB.out
                go_wp2_with (first
                  | (refine wpList_store_doc rfl (.tmp 19) (.tmp 128) rfl b19 D z3 (by first | rfl | (rw [← hb19]; rfl)) rfl hZ19.out rfl ?_; intro wb hwb; have hM := Box.mk (hT19.out wb hwb); clear hwb hT19 hZ19)
                  | (refine wpList_loadG (by rfl) 30 (.tmp 19) rfl b19 0 rfl (docL D z3) _ (blk_range hM.out.2) Tryz.underlying30 rfl (doc_size _ _) ?_)
                  | (refine wpList_loadG (by rfl) 30 (.tmp 13) rfl b13 0 rfl (docL D z2) _ (blk_range (blk_here h13d.out hM.out.1)) Tryz.underlying30 rfl (doc_size _ _) ?_))
                have hq := Box.mk (hqs.out wb hM.out.1)
                refine hq.out.mono ?_
                clear hq hqs
                rintro r wc ⟨rfl, hbe⟩
                have hRW := Box.mk (mono_bel hR.out (mono_bel (mono_bel hRA.out hM.out.1 (Nat.le_refl _)) hbe (Nat.le_refl _)) (Nat.le_refl _))
                clear hbe hM hRA hrz2 hr3
                go_wp2_with fail
                exact ⟨⟨i + 1, by omega, by go_num, hRW⟩, by simp [intOf]; omega⟩
      · have hed : (e1 != 0) = true := by simpa using he
        have hR14 := Box.mk (mono_bel hR9.out hR13.out (Nat.le_refl _))
        have hR15 := Box.mk (mono_bel hR.out hR14.out (Nat.le_refl _))
        clear he hback
        go_wp2_with fail
        exact ⟨⟨i + 1, by omega, by go_num, hR15⟩, by simp [intOf]; omega⟩
    · obtain rfl : i = 3 := by omega
      have hS7 := Box.mk (blk_here hS6.out hR.out)
      have hB7 := Box.mk (mono_bel hB6.out hR.out (Nat.le_refl _))
      obtain ⟨hl1, hl2⟩ := hLB.out wr hB7.out
      have hq := mrcheck_any d z B wr hl1 hl2 (hvB.out.here hB7.out) hoB.out
      clear hl1 hl2 hxs
      by_cases he : ee = 0
      · have hce : ce = 0 := by rw [hecB.out, if_pos he]
        subst he
        rw [hcd.out, hce] at hq
        clear hce hcd
        go_wp2_with (refine wpList_loadG (by rfl) 30 (.tmp 2) rfl b 0 rfl (docL d z) _ (blk_range hS7.out) Tryz.underlying30 rfl (doc_size _ _) ?_)
        refine hq.mono ?_
        clear hq
        rintro r w8 ⟨rfl, hbe⟩
        have hB8 := Box.mk (mono_bel hB7.out hbe (Nat.le_refl _))
        clear hbe
        go_wp2_with fail
        go_returns
        exact ⟨rfl, hB8.out⟩
      · have hed : (ee != 0) = true := by simpa using he
        clear he hq
        go_wp2_with fail
        go_returns
        exact ⟨rfl, hB7.out⟩
end Go.Proofs.YtiblkfkeifnpaaaGreatDoor.Me
