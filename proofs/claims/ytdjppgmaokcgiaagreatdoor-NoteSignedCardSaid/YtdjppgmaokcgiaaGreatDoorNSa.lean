/- Signed of both: one model (written by mksd.py). | Walk of law 11's NoteSigned (written by mksl.py). -/
import Derived.Test.YtdjppgmaokcgiaaGreatDoorNMy
import Derived.Test.YtdjppgmaokcgiaaGreatDoorNSd
import Derived.Test.YtdjppgmaokcgiaaGreatDoorMQa
namespace Go.Proofs.YtdjppgmaokcgiaaGreatDoor.Nt
open Go Go.RowKit

theorem rd_ZS {s : ByteArray} : ZS (rdG s) ∧ (rdG s).length ≤ 16 ∧ (rdT s).size ≤ s.size := by
  unfold rdG rdT
  cases h : rdN s.data.toList with
  | none => exact ⟨fun x hx => (by cases hx), by simp, Nat.zero_le _⟩
  | some n =>
    obtain ⟨t, sg⟩ := n
    obtain ⟨h1, h2⟩ := rdN_some h
    obtain ⟨_, h4, h5⟩ := gN_iff.1 h1
    refine ⟨fun x hx => ⟨by have := (h5 x hx).1; omega, by have := (h5 x hx).2.2; omega⟩, h4, ?_⟩
    have h6 := congrArg List.length h2
    have h7 : (byN (t, sg)).length = t.data.toList.length + (1 + (sgL sg).length) := by show (t.data.toList ++ 10 :: sgL sg).length = _; simp; omega
    rw [h7, data_len, data_len] at h6
    show t.size ≤ s.size
    omega
def ck00 : Ck := ⟨⟨#[]⟩, 0, ⟨#[]⟩⟩
/-- What Signed answers: the checkpoint, the error. -/
def sdV (s : ByteArray) (ids : List ByteArray) (need : Int) : Ck × Int :=
  if rdE s = 0 then match pCk (rdT s).data.toList with
    | none => (ck00, 3)
    | some c => if chkB ids need = true then (if enB ids need (rdT s) (rdG s) = true then (c, 0) else (ck00, 9)) else (ck00, 1)
  else (ck00, 3)
theorem sdV_read {s : ByteArray} {ids : List ByteArray} {need : Int} (h : rdE s = 3) : sdV s ids need = (ck00, 3) := by unfold sdV; rw [if_neg (by omega)]
theorem sdV_parse {s : ByteArray} {ids : List ByteArray} {need : Int} (h : rdE s = 0) (h2 : pCk (rdT s).data.toList = none) : sdV s ids need = (ck00, 3) := by unfold sdV; rw [if_pos h, h2]
theorem sdV_check {s : ByteArray} {ids : List ByteArray} {need : Int} {c : Ck} (h : rdE s = 0) (h2 : pCk (rdT s).data.toList = some c) (h3 : chkB ids need = false) : sdV s ids need = (ck00, 1) := by unfold sdV; rw [if_pos h, h2]; simp [h3]
theorem sdV_few {s : ByteArray} {ids : List ByteArray} {need : Int} {c : Ck} (h : rdE s = 0) (h2 : pCk (rdT s).data.toList = some c) (h3 : chkB ids need = true) (h4 : enB ids need (rdT s) (rdG s) = false) : sdV s ids need = (ck00, 9) := by unfold sdV; rw [if_pos h, h2]; simp [h3, h4]
theorem sdV_yes {s : ByteArray} {ids : List ByteArray} {need : Int} {c : Ck} (h : rdE s = 0) (h2 : pCk (rdT s).data.toList = some c) (h3 : chkB ids need = true) (h4 : enB ids need (rdT s) (rdG s) = true) : sdV s ids need = (c, 0) := by unfold sdV; rw [if_pos h, h2]; simp [h3, h4]
theorem rdE_or (s : ByteArray) : rdE s = 0 ∨ rdE s = 3 := by
  unfold rdE
  cases rdN s.data.toList with
  | none => exact .inr rfl
  | some _ => exact .inl rfl
theorem SigsAt.up {w : World} {v : Value} {sg : List (ByteArray × ByteArray)} (h : SigsAt w v sg) : Go.Proofs.YtdjppgmaokcgiaaGreatDoor.SigsAt w v sg := ⟨h.ex⟩
def zCk : List Value := [.string ⟨#[]⟩, .int .i64 0, .string ⟨#[]⟩]
/-- In Signed: the set, the answer's cell. -/
structure Sd (w0 : World) (v : Value) (need : Int) (w : World) : Prop where
  set : Pk.Blk w w0.heap.size [v, .int .i64 need] 42
  res : Pk.Blk w (w0.heap.size + 1) [.string ⟨#[]⟩, .int .i64 0, .string ⟨#[]⟩] 23
  bel : Below w0.heap.size w0 w
theorem Sd.on {w0 w w' : World} {v : Value} {need : Int} (h : Sd w0 v need w) (hb : Below w.heap.size w w') : Sd w0 v need w' :=
  ⟨(hb.block _ h.set.lt).trans h.set, (hb.block _ h.res.lt).trans h.res, mono_bel h.bel hb (Nat.le_refl _)⟩
theorem Sd.start (w0 : World) (v : Value) (need : Int) : Sd w0 v need ((w0.alloc (.cells #[v, .int .i64 need] 42)).alloc (.cells #[.string ⟨#[]⟩, .int .i64 0, .string ⟨#[]⟩] 23)) := by
  have h1 : Pk.Blk (w0.alloc (.cells #[v, .int .i64 need] 42)) w0.heap.size [v, .int .i64 need] 42 := Pk.Blk.new w0 _ _
  have h2 := Pk.Blk.new (w0.alloc (.cells #[v, .int .i64 need] 42)) [.string ⟨#[]⟩, .int .i64 0, .string ⟨#[]⟩] 23
  have hs : (w0.alloc (.cells #[v, .int .i64 need] 42)).heap.size = w0.heap.size + 1 := by simp
  rw [hs] at h2
  have hb := bel_alloc (w0.alloc (.cells #[v, .int .i64 need] 42)) (.cells #[.string ⟨#[]⟩, .int .i64 0, .string ⟨#[]⟩] 23)
  exact ⟨(hb.block _ h1.lt).trans h1, h2, mono_bel (bel_alloc w0 _) hb (Nat.le_refl _)⟩
theorem Sd.cells {w0 w : World} {v : Value} {need : Int} (h : Sd w0 v need w) : w.cell? ⟨w0.heap.size, 0, none⟩ = some v ∧ w.cell? ⟨w0.heap.size, 1, none⟩ = some (.int .i64 need) ∧ w.cell? ⟨w0.heap.size + 1, 0, none⟩ = some (.string ⟨#[]⟩) ∧ w.cell? ⟨w0.heap.size + 1, 1, none⟩ = some (.int .i64 0) ∧ w.cell? ⟨w0.heap.size + 1, 2, none⟩ = some (.string ⟨#[]⟩)
    ∧ w.frozen? ⟨w0.heap.size + 1, 0, none⟩ = false ∧ w.frozen? ⟨w0.heap.size + 1, 1, none⟩ = false ∧ w.frozen? ⟨w0.heap.size + 1, 2, none⟩ = false :=
  ⟨h.set.cell 0, h.set.cell 1, h.res.cell 0, h.res.cell 1, h.res.cell 2, h.res.free 0, h.res.free 1, h.res.free 2⟩
def sdF (w0 w : World) (c : Ck) : World := ((w.setCell ⟨w0.heap.size + 1, 0, none⟩ (.string c.o)).setCell ⟨w0.heap.size + 1, 1, none⟩ (.int .i64 c.n)).setCell ⟨w0.heap.size + 1, 2, none⟩ (.string c.r)
theorem Sd.fin {w0 w : World} {v : Value} {need : Int} (h : Sd w0 v need w) (c : Ck) : (sdF w0 w c).cell? ⟨w0.heap.size + 1, 0, none⟩ = some (.string c.o) ∧ (sdF w0 w c).cell? ⟨w0.heap.size + 1, 1, none⟩ = some (.int .i64 c.n) ∧ (sdF w0 w c).cell? ⟨w0.heap.size + 1, 2, none⟩ = some (.string c.r) ∧ Below w0.heap.size w0 (sdF w0 w c) := by
  have k : Pk.Blk (sdF w0 w c) (w0.heap.size + 1) [.string c.o, .int .i64 c.n, .string c.r] 23 := ((h.res.setCell 0 (.string c.o)).setCell 1 (.int .i64 c.n)).setCell 2 (.string c.r)
  refine ⟨k.cell 0, k.cell 1, k.cell 2, ?_⟩
  exact (((h.bel.setCell (p := ⟨w0.heap.size + 1, 0, none⟩) (by simp) _)).setCell (p := ⟨w0.heap.size + 1, 1, none⟩) (by simp) _).setCell (p := ⟨w0.heap.size + 1, 2, none⟩) (by simp) _
set_option maxHeartbeats 6400000 in
set_option maxRecDepth 100000 in
theorem signed_any (s : ByteArray) (v : Value) (ids : List ByteArray) (need : Int) (B : Nat) (w : World) (hL : NL B w) (hB : B ≤ w.heap.size) (hK : KIs w) (hs : s.size ≤ 536870912) (hv : PartsAt w v ids) (hl : ids.length ≤ maxLen) :
    Calls Tryz.prog 11 #[.string s, .agg #[v, .int .i64 need]] w fun e w' => e = .returned (.tuple #[.agg #[.string (sdV s ids need).1.o, .int .i64 (sdV s ids need).1.n, .string (sdV s ids need).1.r], .int .i64 (sdV s ids need).2]) ∧ Below w.heap.size w w' := by
  have hS0 := Box.mk (Sd.start w v need)
  obtain ⟨_, h16, hTs⟩ := rd_ZS (s := s)
  have hR := Box.mk (fun w' (h : Below w.heap.size w w') => read_any s B w' (hL.here hB h) (Nat.le_trans hB h.size) (by omega))
  unfold RdI at hR
  have hP := Box.mk (fun w' (h : Below w.heap.size w w') => parse_any (rdT s) B w' (hL.here hB h) (Nat.le_trans hB h.size) (by omega))
  have hC := Box.mk (fun w' (h : Below w.heap.size w w') => check_any v ids need w' (hv.here h) hl)
  have hE := Box.mk (fun w' (a : Option Addr) c (h : Below w.heap.size w w') (hg : SigsAt w' (.slice a (rdG s).length c) (rdG s)) => enough_any v ids need (rdT s) (.slice a (rdG s).length c) (rdG s) w' (hv.here h) hl hg.up (by unfold maxLen; omega) (hK.below h hK.lt) (by omega))
  obtain ⟨a0, c0, rfl⟩ : ∃ a c, v = .slice a ids.length c := by
    obtain ⟨a, cap, h1, _⟩ := hv.ex
    exact ⟨a, cap, h1⟩
  rw [chkE_of] at hC
  clear hL hB hK hs hv hl hTs
  obtain ⟨sd0, hsd0⟩ : ∃ x, sdV s ids need = x := ⟨_, rfl⟩
  rw [hsd0]
  obtain ⟨T, hT⟩ : ∃ T, rdT s = T := ⟨_, rfl⟩
  obtain ⟨sg, hsg⟩ : ∃ T, rdG s = T := ⟨_, rfl⟩
  rw [hT, hsg] at hR hE
  rw [hT] at hP
  rw [hsg] at h16
  have h01 := fun h => sdV_read (s := s) (ids := ids) (need := need) h
  have h02 := fun h h2 => sdV_parse (s := s) (ids := ids) (need := need) h h2
  have h03 := fun c h h2 h3 => sdV_check (s := s) (ids := ids) (need := need) (c := c) h h2 h3
  have h04 := fun c h h2 h3 h4 => sdV_few (s := s) (ids := ids) (need := need) (c := c) h h2 h3 h4
  have h05 := fun c h h2 h3 h4 => sdV_yes (s := s) (ids := ids) (need := need) (c := c) h h2 h3 h4
  have h06 := rdE_or s
  rw [hsd0] at h01
  simp only [hsd0, hT, hsg] at h02 h03 h04 h05
  obtain ⟨E, hEe⟩ : ∃ E, rdE s = E := ⟨_, rfl⟩
  rw [hEe] at h06 hR h01
  simp only [hEe] at h02 h03 h04 h05
  obtain ⟨cb, hcb⟩ : ∃ b, chkB ids need = b := ⟨_, rfl⟩
  obtain ⟨eb, heb⟩ : ∃ b, enB ids need T sg = b := ⟨_, rfl⟩
  rw [hcb] at hC
  rw [heb] at hE
  simp only [hcb, heb] at h03 h04 h05
  obtain ⟨L, hLe⟩ : ∃ L, ids.length = L := ⟨_, rfl⟩
  rw [hLe] at hS0 hC hE ⊢
  clear hLe hcb heb hEe hsd0 hT hsg ids
  rcases h06 with rfl | rfl
  · cases hp : pCk T.data.toList with
    | none =>
      obtain rfl := h02 rfl hp
      rw [prV_none hp] at hP
      clear hC hE hp h01 h02 h03 h04 h05
      unfold ck00
      go_enter Tryz.func11, Tryz.ntmps11
      go_wp2_with fail
      refine (hR.out _ hS0.out.bel).mono ?_
      clear hR
      rintro e w3 ⟨v3, rfl, hr3⟩
      obtain ⟨a3, c3, rfl⟩ := hr3.row.shape
      obtain ⟨wn, hwn⟩ : ∃ wn, w3.alloc (.cells #[.string T, .slice a3 sg.length c3] 32) = wn := ⟨_, rfl⟩
      have hbn : Below w3.heap.size w3 wn := by rw [← hwn]; exact bel_alloc _ _
      have hS3 := Box.mk ((hS0.out.on hr3.bel).on hbn)
      have hG3 := Box.mk (hr3.sigs.here hbn)
      have hN3 : Box (Pk.Blk wn w3.heap.size [.string T, .slice a3 sg.length c3] 32) := ⟨by rw [← hwn]; exact Pk.Blk.new w3 _ _⟩
      have n0 : wn.cell? ⟨w3.heap.size, 0, none⟩ = some (.string T) := hN3.out.cell 0
      have n1 : wn.cell? ⟨w3.heap.size, 1, none⟩ = some (.slice a3 sg.length c3) := hN3.out.cell 1
      obtain ⟨bn, hbn2⟩ : ∃ b, w3.heap.size = b := ⟨_, rfl⟩
      rw [hbn2] at hN3 n0 n1
      have hF := hP.out wn hS3.out.bel
      clear hr3 hbn hS0
      go_wp2_with fail
      refine hF.mono ?_
      clear hF n0 n1
      rintro e w4 ⟨rfl, hb⟩
      have hS4 := Box.mk ((hS3.out.on hb).on (bel_alloc w4 (.cells #[.string ⟨#[]⟩, .int .i64 0, .string ⟨#[]⟩] 23)))
      clear hb hS3 hN3 hP
      obtain ⟨_, _, r0, r1, r2, f0, f1, f2⟩ := hS4.out.cells
      have hfin := Box.mk (hS4.out.fin ck00)
      go_wp2_with fail
      obtain ⟨d0, d1, d2, hBz⟩ := hfin.out
      unfold sdF ck00 at d0 d1 d2 hBz
      refine bodyPost_ret (v := .tuple #[.agg #[.string ⟨#[]⟩, .int .i64 0, .string ⟨#[]⟩], .int .i64 3]) (by simp [results, Tryz.results11, go_sem, d0, d1, d2]; try rfl) rfl ⟨rfl, hBz⟩
    | some c =>
      rw [prV_some hp] at hP
      obtain ⟨c1, c2, c3'⟩ := c
      cases cb with
      | false =>
        obtain rfl := h03 _ rfl hp rfl
        clear hE hp h01 h02 h03 h04 h05
        unfold ck00
        go_enter Tryz.func11, Tryz.ntmps11
        go_wp2_with fail
        refine (hR.out _ hS0.out.bel).mono ?_
        clear hR
        rintro e w3 ⟨v3, rfl, hr3⟩
        obtain ⟨a3, c3, rfl⟩ := hr3.row.shape
        obtain ⟨wn, hwn⟩ : ∃ wn, w3.alloc (.cells #[.string T, .slice a3 sg.length c3] 32) = wn := ⟨_, rfl⟩
        have hbn : Below w3.heap.size w3 wn := by rw [← hwn]; exact bel_alloc _ _
        have hS3 := Box.mk ((hS0.out.on hr3.bel).on hbn)
        have hG3 := Box.mk (hr3.sigs.here hbn)
        have hN3 : Box (Pk.Blk wn w3.heap.size [.string T, .slice a3 sg.length c3] 32) := ⟨by rw [← hwn]; exact Pk.Blk.new w3 _ _⟩
        have n0 : wn.cell? ⟨w3.heap.size, 0, none⟩ = some (.string T) := hN3.out.cell 0
        have n1 : wn.cell? ⟨w3.heap.size, 1, none⟩ = some (.slice a3 sg.length c3) := hN3.out.cell 1
        obtain ⟨bn, hbn2⟩ : ∃ b, w3.heap.size = b := ⟨_, rfl⟩
        rw [hbn2] at hN3 n0 n1
        have hF := hP.out wn hS3.out.bel
        clear hr3 hbn hS0
        go_wp2_with fail
        refine hF.mono ?_
        clear hF n0 n1 hP
        rintro e w4 ⟨rfl, hb⟩
        obtain ⟨wc, hwc⟩ : ∃ wc, w4.alloc (.cells #[.string c1, .int .i64 c2, .string c3'] 23) = wc := ⟨_, rfl⟩
        have hbc : Below w4.heap.size w4 wc := by rw [← hwc]; exact bel_alloc _ _
        have hS4 := Box.mk ((hS3.out.on hb).on hbc)
        have hG4 := Box.mk ((hG3.out.here hb).here hbc)
        have hN4a : Pk.Blk w4 bn [.string T, .slice a3 sg.length c3] 32 := (hb.block _ hN3.out.lt).trans hN3.out
        have hN4 : Box (Pk.Blk wc bn [.string T, .slice a3 sg.length c3] 32) := ⟨(hbc.block _ hN4a.lt).trans hN4a⟩
        have hC4 : Box (Pk.Blk wc w4.heap.size [.string c1, .int .i64 c2, .string c3'] 23) := ⟨by rw [← hwc]; exact Pk.Blk.new w4 _ _⟩
        obtain ⟨b8, hb8⟩ : ∃ b, w4.heap.size = b := ⟨_, rfl⟩
        rw [hb8] at hC4
        have hF := hC.out wc hS4.out.bel
        clear hb hbc hN4a hN3 hC
        obtain ⟨s0, s1, r0, r1, r2, f0, f1, f2⟩ := hS4.out.cells
        rw [if_neg (by decide)] at hF
        clear hG3 hG4 hN4 hC4 hS3
        go_wp2_with fail
        refine hF.mono ?_
        clear hF s0 s1 r0 r1 r2 f0 f1 f2
        rintro e w5 ⟨rfl, hb⟩
        have hS5 := Box.mk (hS4.out.on hb)
        clear hb hS4
        obtain ⟨_, _, r0, r1, r2, f0, f1, f2⟩ := hS5.out.cells
        have hfin := Box.mk (hS5.out.fin ck00)
        go_wp2_with fail
        obtain ⟨d0, d1, d2, hBz⟩ := hfin.out
        unfold sdF ck00 at d0 d1 d2 hBz
        refine bodyPost_ret (v := .tuple #[.agg #[.string ⟨#[]⟩, .int .i64 0, .string ⟨#[]⟩], .int .i64 1]) (by simp [results, Tryz.results11, go_sem, d0, d1, d2]; try rfl) rfl ⟨rfl, hBz⟩
      | true =>
        cases eb with
        | false =>
          obtain rfl := h04 _ rfl hp rfl rfl
          clear hp h01 h02 h03 h04 h05
          unfold ck00
          go_enter Tryz.func11, Tryz.ntmps11
          go_wp2_with fail
          refine (hR.out _ hS0.out.bel).mono ?_
          clear hR
          rintro e w3 ⟨v3, rfl, hr3⟩
          obtain ⟨a3, c3, rfl⟩ := hr3.row.shape
          obtain ⟨wn, hwn⟩ : ∃ wn, w3.alloc (.cells #[.string T, .slice a3 sg.length c3] 32) = wn := ⟨_, rfl⟩
          have hbn : Below w3.heap.size w3 wn := by rw [← hwn]; exact bel_alloc _ _
          have hS3 := Box.mk ((hS0.out.on hr3.bel).on hbn)
          have hG3 := Box.mk (hr3.sigs.here hbn)
          have hN3 : Box (Pk.Blk wn w3.heap.size [.string T, .slice a3 sg.length c3] 32) := ⟨by rw [← hwn]; exact Pk.Blk.new w3 _ _⟩
          have n0 : wn.cell? ⟨w3.heap.size, 0, none⟩ = some (.string T) := hN3.out.cell 0
          have n1 : wn.cell? ⟨w3.heap.size, 1, none⟩ = some (.slice a3 sg.length c3) := hN3.out.cell 1
          obtain ⟨bn, hbn2⟩ : ∃ b, w3.heap.size = b := ⟨_, rfl⟩
          rw [hbn2] at hN3 n0 n1
          have hF := hP.out wn hS3.out.bel
          clear hr3 hbn hS0
          go_wp2_with fail
          refine hF.mono ?_
          clear hF n0 n1 hP
          rintro e w4 ⟨rfl, hb⟩
          obtain ⟨wc, hwc⟩ : ∃ wc, w4.alloc (.cells #[.string c1, .int .i64 c2, .string c3'] 23) = wc := ⟨_, rfl⟩
          have hbc : Below w4.heap.size w4 wc := by rw [← hwc]; exact bel_alloc _ _
          have hS4 := Box.mk ((hS3.out.on hb).on hbc)
          have hG4 := Box.mk ((hG3.out.here hb).here hbc)
          have hN4a : Pk.Blk w4 bn [.string T, .slice a3 sg.length c3] 32 := (hb.block _ hN3.out.lt).trans hN3.out
          have hN4 : Box (Pk.Blk wc bn [.string T, .slice a3 sg.length c3] 32) := ⟨(hbc.block _ hN4a.lt).trans hN4a⟩
          have hC4 : Box (Pk.Blk wc w4.heap.size [.string c1, .int .i64 c2, .string c3'] 23) := ⟨by rw [← hwc]; exact Pk.Blk.new w4 _ _⟩
          obtain ⟨b8, hb8⟩ : ∃ b, w4.heap.size = b := ⟨_, rfl⟩
          rw [hb8] at hC4
          have hF := hC.out wc hS4.out.bel
          clear hb hbc hN4a hN3 hC
          obtain ⟨s0, s1, r0, r1, r2, f0, f1, f2⟩ := hS4.out.cells
          rw [if_pos trivial] at hF
          clear hS3 hG3
          go_wp2_with fail
          refine hF.mono ?_
          clear hF r0 r1 r2 f0 f1 f2 s0 s1
          rintro e w5 ⟨rfl, hb⟩
          have hS5 := Box.mk (hS4.out.on hb)
          have hG5 := Box.mk (hG4.out.here hb)
          have hN5 : Box (Pk.Blk w5 bn [.string T, .slice a3 sg.length c3] 32) := ⟨(hb.block _ hN4.out.lt).trans hN4.out⟩
          have hC5 : Box (Pk.Blk w5 b8 [.string c1, .int .i64 c2, .string c3'] 23) := ⟨(hb.block _ hC4.out.lt).trans hC4.out⟩
          have m0 : w5.cell? ⟨bn, 0, none⟩ = some (.string T) := hN5.out.cell 0
          have m1 : w5.cell? ⟨bn, 1, none⟩ = some (.slice a3 sg.length c3) := hN5.out.cell 1
          obtain ⟨s0, s1, r0, r1, r2, f0, f1, f2⟩ := hS5.out.cells
          have hF := hE.out w5 a3 c3 hS5.out.bel hG5.out
          clear hb hS4 hG4 hN4 hC4 hE hG5 hN5 hwc hwn
          go_wp2_with fail
          refine hF.mono ?_
          clear hF r0 r1 r2 f0 f1 f2 m0 m1 s0 s1
          rintro e w6 ⟨rfl, hb⟩
          have hS6 := Box.mk (hS5.out.on hb)
          clear hb hS5 hC5
          obtain ⟨_, _, r0, r1, r2, f0, f1, f2⟩ := hS6.out.cells
          have hfin := Box.mk (hS6.out.fin ck00)
          go_wp2_with fail
          obtain ⟨d0, d1, d2, hBz⟩ := hfin.out
          unfold sdF ck00 at d0 d1 d2 hBz
          refine bodyPost_ret (v := .tuple #[.agg #[.string ⟨#[]⟩, .int .i64 0, .string ⟨#[]⟩], .int .i64 9]) (by simp [results, Tryz.results11, go_sem, d0, d1, d2]; try rfl) rfl ⟨rfl, hBz⟩
        | true =>
          obtain rfl := h05 _ rfl hp rfl rfl
          clear hp h01 h02 h03 h04 h05
          go_enter Tryz.func11, Tryz.ntmps11
          go_wp2_with fail
          refine (hR.out _ hS0.out.bel).mono ?_
          clear hR
          rintro e w3 ⟨v3, rfl, hr3⟩
          obtain ⟨a3, c3, rfl⟩ := hr3.row.shape
          obtain ⟨wn, hwn⟩ : ∃ wn, w3.alloc (.cells #[.string T, .slice a3 sg.length c3] 32) = wn := ⟨_, rfl⟩
          have hbn : Below w3.heap.size w3 wn := by rw [← hwn]; exact bel_alloc _ _
          have hS3 := Box.mk ((hS0.out.on hr3.bel).on hbn)
          have hG3 := Box.mk (hr3.sigs.here hbn)
          have hN3 : Box (Pk.Blk wn w3.heap.size [.string T, .slice a3 sg.length c3] 32) := ⟨by rw [← hwn]; exact Pk.Blk.new w3 _ _⟩
          have n0 : wn.cell? ⟨w3.heap.size, 0, none⟩ = some (.string T) := hN3.out.cell 0
          have n1 : wn.cell? ⟨w3.heap.size, 1, none⟩ = some (.slice a3 sg.length c3) := hN3.out.cell 1
          obtain ⟨bn, hbn2⟩ : ∃ b, w3.heap.size = b := ⟨_, rfl⟩
          rw [hbn2] at hN3 n0 n1
          have hF := hP.out wn hS3.out.bel
          clear hr3 hbn hS0
          go_wp2_with fail
          refine hF.mono ?_
          clear hF n0 n1 hP
          rintro e w4 ⟨rfl, hb⟩
          obtain ⟨wc, hwc⟩ : ∃ wc, w4.alloc (.cells #[.string c1, .int .i64 c2, .string c3'] 23) = wc := ⟨_, rfl⟩
          have hbc : Below w4.heap.size w4 wc := by rw [← hwc]; exact bel_alloc _ _
          have hS4 := Box.mk ((hS3.out.on hb).on hbc)
          have hG4 := Box.mk ((hG3.out.here hb).here hbc)
          have hN4a : Pk.Blk w4 bn [.string T, .slice a3 sg.length c3] 32 := (hb.block _ hN3.out.lt).trans hN3.out
          have hN4 : Box (Pk.Blk wc bn [.string T, .slice a3 sg.length c3] 32) := ⟨(hbc.block _ hN4a.lt).trans hN4a⟩
          have hC4 : Box (Pk.Blk wc w4.heap.size [.string c1, .int .i64 c2, .string c3'] 23) := ⟨by rw [← hwc]; exact Pk.Blk.new w4 _ _⟩
          obtain ⟨b8, hb8⟩ : ∃ b, w4.heap.size = b := ⟨_, rfl⟩
          rw [hb8] at hC4
          have hF := hC.out wc hS4.out.bel
          clear hb hbc hN4a hN3 hC
          obtain ⟨s0, s1, r0, r1, r2, f0, f1, f2⟩ := hS4.out.cells
          rw [if_pos trivial] at hF
          clear hS3 hG3
          go_wp2_with fail
          refine hF.mono ?_
          clear hF r0 r1 r2 f0 f1 f2 s0 s1
          rintro e w5 ⟨rfl, hb⟩
          have hS5 := Box.mk (hS4.out.on hb)
          have hG5 := Box.mk (hG4.out.here hb)
          have hN5 : Box (Pk.Blk w5 bn [.string T, .slice a3 sg.length c3] 32) := ⟨(hb.block _ hN4.out.lt).trans hN4.out⟩
          have hC5 : Box (Pk.Blk w5 b8 [.string c1, .int .i64 c2, .string c3'] 23) := ⟨(hb.block _ hC4.out.lt).trans hC4.out⟩
          have m0 : w5.cell? ⟨bn, 0, none⟩ = some (.string T) := hN5.out.cell 0
          have m1 : w5.cell? ⟨bn, 1, none⟩ = some (.slice a3 sg.length c3) := hN5.out.cell 1
          obtain ⟨s0, s1, r0, r1, r2, f0, f1, f2⟩ := hS5.out.cells
          have hF := hE.out w5 a3 c3 hS5.out.bel hG5.out
          clear hb hS4 hG4 hN4 hC4 hE hG5 hN5 hwc hwn
          go_wp2_with fail
          refine hF.mono ?_
          clear hF r0 r1 r2 f0 f1 f2 m0 m1 s0 s1
          rintro e w6 ⟨rfl, hb⟩
          have hS6 := Box.mk (hS5.out.on hb)
          have hC6 : Box (Pk.Blk w6 b8 [.string c1, .int .i64 c2, .string c3'] 23) := ⟨(hb.block _ hC5.out.lt).trans hC5.out⟩
          have k0 : w6.cell? ⟨b8, 0, none⟩ = some (.string c1) := hC6.out.cell 0
          have k1 : w6.cell? ⟨b8, 1, none⟩ = some (.int .i64 c2) := hC6.out.cell 1
          have k2 : w6.cell? ⟨b8, 2, none⟩ = some (.string c3') := hC6.out.cell 2
          clear hb hS5 hC5
          obtain ⟨_, _, r0, r1, r2, f0, f1, f2⟩ := hS6.out.cells
          have hfin := Box.mk (hS6.out.fin ⟨c1, c2, c3'⟩)
          go_wp2_with fail
          obtain ⟨d0, d1, d2, hBz⟩ := hfin.out
          unfold sdF at d0 d1 d2 hBz
          refine bodyPost_ret (v := .tuple #[.agg #[.string c1, .int .i64 c2, .string c3'], .int .i64 0]) (by simp [results, Tryz.results11, go_sem, d0, d1, d2]; try rfl) rfl ⟨rfl, hBz⟩
  · obtain rfl := h01 rfl
    clear hC hE hP h01 h02 h03 h04 h05
    unfold ck00
    go_enter Tryz.func11, Tryz.ntmps11
    go_wp2_with fail
    refine (hR.out _ hS0.out.bel).mono ?_
    clear hR
    rintro e w3 ⟨v3, rfl, hr3⟩
    obtain ⟨a3, c3, rfl⟩ := hr3.row.shape
    have hS3 := Box.mk ((hS0.out.on hr3.bel).on (bel_alloc w3 (.cells #[.string T, .slice a3 sg.length c3] 32)))
    clear hr3
    obtain ⟨_, _, r0, r1, r2, f0, f1, f2⟩ := hS3.out.cells
    have hfin := Box.mk (hS3.out.fin ck00)
    go_wp2_with fail
    obtain ⟨d0, d1, d2, hBz⟩ := hfin.out
    unfold sdF ck00 at d0 d1 d2 hBz
    refine bodyPost_ret (v := .tuple #[.agg #[.string ⟨#[]⟩, .int .i64 0, .string ⟨#[]⟩], .int .i64 3]) (by simp [results, Tryz.results11, go_sem, d0, d1, d2]; try rfl) rfl ⟨rfl, hBz⟩
set_option maxHeartbeats 6400000 in
set_option maxRecDepth 100000 in
theorem dsigned_any (s : ByteArray) (v : Value) (ids : List ByteArray) (need : Int) (B : Nat) (w : World) (hL : NL B w) (hB : B ≤ w.heap.size) (_ : KIs w) (hs : s.size ≤ 536870912) (hv : PartsAt w v ids) (hl : ids.length ≤ maxLen) :
    Calls Tryz.prog 12 #[.string s, .agg #[v, .int .i64 need]] w fun e w' => e = .returned (.tuple #[.agg #[.string (sdV s ids need).1.o, .int .i64 (sdV s ids need).1.n, .string (sdV s ids need).1.r], .int .i64 (sdV s ids need).2]) ∧ Below w.heap.size w w' := by
  have hS0 := Box.mk (Sd.start w v need)
  obtain ⟨_, h16, hTs⟩ := rd_ZS (s := s)
  have hR := Box.mk (fun w' (h : Below w.heap.size w w') => dread_any s w' hs)
  unfold RdI at hR
  have hP := Box.mk (fun w' (h : Below w.heap.size w w') => dparse_any (rdT s) B w' (hL.here hB h) (Nat.le_trans hB h.size) (by omega))
  have hC := Box.mk (fun w' (h : Below w.heap.size w w') => rcheck_any v ids need w' (hv.here h) hl)
  have hE := Box.mk (fun w' (a : Option Addr) c (h : Below w.heap.size w w') (hg : SigsAt w' (.slice a (rdG s).length c) (rdG s)) => renough_any v ids need (rdT s) (.slice a (rdG s).length c) (rdG s) w' (hv.here h) hl hg.up (by unfold maxLen; omega) (by omega))
  obtain ⟨a0, c0, rfl⟩ : ∃ a c, v = .slice a ids.length c := by
    obtain ⟨a, cap, h1, _⟩ := hv.ex
    exact ⟨a, cap, h1⟩
  rw [chkE_of] at hC
  clear hL hB hs hv hl hTs
  obtain ⟨sd0, hsd0⟩ : ∃ x, sdV s ids need = x := ⟨_, rfl⟩
  rw [hsd0]
  obtain ⟨T, hT⟩ : ∃ T, rdT s = T := ⟨_, rfl⟩
  obtain ⟨sg, hsg⟩ : ∃ T, rdG s = T := ⟨_, rfl⟩
  rw [hT, hsg] at hR hE
  rw [hT] at hP
  rw [hsg] at h16
  have h01 := fun h => sdV_read (s := s) (ids := ids) (need := need) h
  have h02 := fun h h2 => sdV_parse (s := s) (ids := ids) (need := need) h h2
  have h03 := fun c h h2 h3 => sdV_check (s := s) (ids := ids) (need := need) (c := c) h h2 h3
  have h04 := fun c h h2 h3 h4 => sdV_few (s := s) (ids := ids) (need := need) (c := c) h h2 h3 h4
  have h05 := fun c h h2 h3 h4 => sdV_yes (s := s) (ids := ids) (need := need) (c := c) h h2 h3 h4
  have h06 := rdE_or s
  rw [hsd0] at h01
  simp only [hsd0, hT, hsg] at h02 h03 h04 h05
  obtain ⟨E, hEe⟩ : ∃ E, rdE s = E := ⟨_, rfl⟩
  rw [hEe] at h06 hR h01
  simp only [hEe] at h02 h03 h04 h05
  obtain ⟨cb, hcb⟩ : ∃ b, chkB ids need = b := ⟨_, rfl⟩
  obtain ⟨eb, heb⟩ : ∃ b, enB ids need T sg = b := ⟨_, rfl⟩
  rw [hcb] at hC
  rw [heb] at hE
  simp only [hcb, heb] at h03 h04 h05
  obtain ⟨L, hLe⟩ : ∃ L, ids.length = L := ⟨_, rfl⟩
  rw [hLe] at hS0 hC hE ⊢
  clear hLe hcb heb hEe hsd0 hT hsg ids
  rcases h06 with rfl | rfl
  · cases hp : pCk T.data.toList with
    | none =>
      obtain rfl := h02 rfl hp
      rw [prV_none hp] at hP
      clear hC hE hp h01 h02 h03 h04 h05
      unfold ck00
      go_enter Tryz.func12, Tryz.ntmps12
      go_wp2_with fail
      refine (hR.out _ hS0.out.bel).mono ?_
      clear hR
      rintro e w3 ⟨v3, rfl, hr3⟩
      obtain ⟨a3, c3, rfl⟩ := hr3.row.shape
      obtain ⟨wn, hwn⟩ : ∃ wn, w3.alloc (.cells #[.string T, .slice a3 sg.length c3] 32) = wn := ⟨_, rfl⟩
      have hbn : Below w3.heap.size w3 wn := by rw [← hwn]; exact bel_alloc _ _
      have hS3 := Box.mk ((hS0.out.on hr3.bel).on hbn)
      have hG3 := Box.mk (hr3.sigs.here hbn)
      have hN3 : Box (Pk.Blk wn w3.heap.size [.string T, .slice a3 sg.length c3] 32) := ⟨by rw [← hwn]; exact Pk.Blk.new w3 _ _⟩
      have n0 : wn.cell? ⟨w3.heap.size, 0, none⟩ = some (.string T) := hN3.out.cell 0
      have n1 : wn.cell? ⟨w3.heap.size, 1, none⟩ = some (.slice a3 sg.length c3) := hN3.out.cell 1
      obtain ⟨bn, hbn2⟩ : ∃ b, w3.heap.size = b := ⟨_, rfl⟩
      rw [hbn2] at hN3 n0 n1
      have hF := hP.out wn hS3.out.bel
      clear hr3 hbn hS0
      go_wp2_with fail
      refine hF.mono ?_
      clear hF n0 n1
      rintro e w4 ⟨rfl, hb⟩
      have hS4 := Box.mk ((hS3.out.on hb).on (bel_alloc w4 (.cells #[.string ⟨#[]⟩, .int .i64 0, .string ⟨#[]⟩] 23)))
      clear hb hS3 hN3 hP
      obtain ⟨_, _, r0, r1, r2, f0, f1, f2⟩ := hS4.out.cells
      have hfin := Box.mk (hS4.out.fin ck00)
      go_wp2_with fail
      obtain ⟨d0, d1, d2, hBz⟩ := hfin.out
      unfold sdF ck00 at d0 d1 d2 hBz
      refine bodyPost_ret (v := .tuple #[.agg #[.string ⟨#[]⟩, .int .i64 0, .string ⟨#[]⟩], .int .i64 3]) (by simp [results, Tryz.results12, go_sem, d0, d1, d2]; try rfl) rfl ⟨rfl, hBz⟩
    | some c =>
      rw [prV_some hp] at hP
      obtain ⟨c1, c2, c3'⟩ := c
      cases cb with
      | false =>
        obtain rfl := h03 _ rfl hp rfl
        clear hE hp h01 h02 h03 h04 h05
        unfold ck00
        go_enter Tryz.func12, Tryz.ntmps12
        go_wp2_with fail
        refine (hR.out _ hS0.out.bel).mono ?_
        clear hR
        rintro e w3 ⟨v3, rfl, hr3⟩
        obtain ⟨a3, c3, rfl⟩ := hr3.row.shape
        obtain ⟨wn, hwn⟩ : ∃ wn, w3.alloc (.cells #[.string T, .slice a3 sg.length c3] 32) = wn := ⟨_, rfl⟩
        have hbn : Below w3.heap.size w3 wn := by rw [← hwn]; exact bel_alloc _ _
        have hS3 := Box.mk ((hS0.out.on hr3.bel).on hbn)
        have hG3 := Box.mk (hr3.sigs.here hbn)
        have hN3 : Box (Pk.Blk wn w3.heap.size [.string T, .slice a3 sg.length c3] 32) := ⟨by rw [← hwn]; exact Pk.Blk.new w3 _ _⟩
        have n0 : wn.cell? ⟨w3.heap.size, 0, none⟩ = some (.string T) := hN3.out.cell 0
        have n1 : wn.cell? ⟨w3.heap.size, 1, none⟩ = some (.slice a3 sg.length c3) := hN3.out.cell 1
        obtain ⟨bn, hbn2⟩ : ∃ b, w3.heap.size = b := ⟨_, rfl⟩
        rw [hbn2] at hN3 n0 n1
        have hF := hP.out wn hS3.out.bel
        clear hr3 hbn hS0
        go_wp2_with fail
        refine hF.mono ?_
        clear hF n0 n1 hP
        rintro e w4 ⟨rfl, hb⟩
        obtain ⟨wc, hwc⟩ : ∃ wc, w4.alloc (.cells #[.string c1, .int .i64 c2, .string c3'] 23) = wc := ⟨_, rfl⟩
        have hbc : Below w4.heap.size w4 wc := by rw [← hwc]; exact bel_alloc _ _
        have hS4 := Box.mk ((hS3.out.on hb).on hbc)
        have hG4 := Box.mk ((hG3.out.here hb).here hbc)
        have hN4a : Pk.Blk w4 bn [.string T, .slice a3 sg.length c3] 32 := (hb.block _ hN3.out.lt).trans hN3.out
        have hN4 : Box (Pk.Blk wc bn [.string T, .slice a3 sg.length c3] 32) := ⟨(hbc.block _ hN4a.lt).trans hN4a⟩
        have hC4 : Box (Pk.Blk wc w4.heap.size [.string c1, .int .i64 c2, .string c3'] 23) := ⟨by rw [← hwc]; exact Pk.Blk.new w4 _ _⟩
        obtain ⟨b8, hb8⟩ : ∃ b, w4.heap.size = b := ⟨_, rfl⟩
        rw [hb8] at hC4
        have hF := hC.out wc hS4.out.bel
        clear hb hbc hN4a hN3 hC
        obtain ⟨s0, s1, r0, r1, r2, f0, f1, f2⟩ := hS4.out.cells
        rw [if_neg (by decide)] at hF
        clear hG3 hG4 hN4 hC4 hS3
        go_wp2_with fail
        refine hF.mono ?_
        clear hF s0 s1 r0 r1 r2 f0 f1 f2
        rintro e w5 ⟨rfl, hb⟩
        have hS5 := Box.mk (hS4.out.on hb)
        clear hb hS4
        obtain ⟨_, _, r0, r1, r2, f0, f1, f2⟩ := hS5.out.cells
        have hfin := Box.mk (hS5.out.fin ck00)
        go_wp2_with fail
        obtain ⟨d0, d1, d2, hBz⟩ := hfin.out
        unfold sdF ck00 at d0 d1 d2 hBz
        refine bodyPost_ret (v := .tuple #[.agg #[.string ⟨#[]⟩, .int .i64 0, .string ⟨#[]⟩], .int .i64 1]) (by simp [results, Tryz.results12, go_sem, d0, d1, d2]; try rfl) rfl ⟨rfl, hBz⟩
      | true =>
        cases eb with
        | false =>
          obtain rfl := h04 _ rfl hp rfl rfl
          clear hp h01 h02 h03 h04 h05
          unfold ck00
          go_enter Tryz.func12, Tryz.ntmps12
          go_wp2_with fail
          refine (hR.out _ hS0.out.bel).mono ?_
          clear hR
          rintro e w3 ⟨v3, rfl, hr3⟩
          obtain ⟨a3, c3, rfl⟩ := hr3.row.shape
          obtain ⟨wn, hwn⟩ : ∃ wn, w3.alloc (.cells #[.string T, .slice a3 sg.length c3] 32) = wn := ⟨_, rfl⟩
          have hbn : Below w3.heap.size w3 wn := by rw [← hwn]; exact bel_alloc _ _
          have hS3 := Box.mk ((hS0.out.on hr3.bel).on hbn)
          have hG3 := Box.mk (hr3.sigs.here hbn)
          have hN3 : Box (Pk.Blk wn w3.heap.size [.string T, .slice a3 sg.length c3] 32) := ⟨by rw [← hwn]; exact Pk.Blk.new w3 _ _⟩
          have n0 : wn.cell? ⟨w3.heap.size, 0, none⟩ = some (.string T) := hN3.out.cell 0
          have n1 : wn.cell? ⟨w3.heap.size, 1, none⟩ = some (.slice a3 sg.length c3) := hN3.out.cell 1
          obtain ⟨bn, hbn2⟩ : ∃ b, w3.heap.size = b := ⟨_, rfl⟩
          rw [hbn2] at hN3 n0 n1
          have hF := hP.out wn hS3.out.bel
          clear hr3 hbn hS0
          go_wp2_with fail
          refine hF.mono ?_
          clear hF n0 n1 hP
          rintro e w4 ⟨rfl, hb⟩
          obtain ⟨wc, hwc⟩ : ∃ wc, w4.alloc (.cells #[.string c1, .int .i64 c2, .string c3'] 23) = wc := ⟨_, rfl⟩
          have hbc : Below w4.heap.size w4 wc := by rw [← hwc]; exact bel_alloc _ _
          have hS4 := Box.mk ((hS3.out.on hb).on hbc)
          have hG4 := Box.mk ((hG3.out.here hb).here hbc)
          have hN4a : Pk.Blk w4 bn [.string T, .slice a3 sg.length c3] 32 := (hb.block _ hN3.out.lt).trans hN3.out
          have hN4 : Box (Pk.Blk wc bn [.string T, .slice a3 sg.length c3] 32) := ⟨(hbc.block _ hN4a.lt).trans hN4a⟩
          have hC4 : Box (Pk.Blk wc w4.heap.size [.string c1, .int .i64 c2, .string c3'] 23) := ⟨by rw [← hwc]; exact Pk.Blk.new w4 _ _⟩
          obtain ⟨b8, hb8⟩ : ∃ b, w4.heap.size = b := ⟨_, rfl⟩
          rw [hb8] at hC4
          have hF := hC.out wc hS4.out.bel
          clear hb hbc hN4a hN3 hC
          obtain ⟨s0, s1, r0, r1, r2, f0, f1, f2⟩ := hS4.out.cells
          rw [if_pos trivial] at hF
          clear hS3 hG3
          go_wp2_with fail
          refine hF.mono ?_
          clear hF r0 r1 r2 f0 f1 f2 s0 s1
          rintro e w5 ⟨rfl, hb⟩
          have hS5 := Box.mk (hS4.out.on hb)
          have hG5 := Box.mk (hG4.out.here hb)
          have hN5 : Box (Pk.Blk w5 bn [.string T, .slice a3 sg.length c3] 32) := ⟨(hb.block _ hN4.out.lt).trans hN4.out⟩
          have hC5 : Box (Pk.Blk w5 b8 [.string c1, .int .i64 c2, .string c3'] 23) := ⟨(hb.block _ hC4.out.lt).trans hC4.out⟩
          have m0 : w5.cell? ⟨bn, 0, none⟩ = some (.string T) := hN5.out.cell 0
          have m1 : w5.cell? ⟨bn, 1, none⟩ = some (.slice a3 sg.length c3) := hN5.out.cell 1
          obtain ⟨s0, s1, r0, r1, r2, f0, f1, f2⟩ := hS5.out.cells
          have hF := hE.out w5 a3 c3 hS5.out.bel hG5.out
          clear hb hS4 hG4 hN4 hC4 hE hG5 hN5 hwc hwn
          go_wp2_with fail
          refine hF.mono ?_
          clear hF r0 r1 r2 f0 f1 f2 m0 m1 s0 s1
          rintro e w6 ⟨rfl, hb⟩
          have hS6 := Box.mk (hS5.out.on hb)
          clear hb hS5 hC5
          obtain ⟨_, _, r0, r1, r2, f0, f1, f2⟩ := hS6.out.cells
          have hfin := Box.mk (hS6.out.fin ck00)
          go_wp2_with fail
          obtain ⟨d0, d1, d2, hBz⟩ := hfin.out
          unfold sdF ck00 at d0 d1 d2 hBz
          refine bodyPost_ret (v := .tuple #[.agg #[.string ⟨#[]⟩, .int .i64 0, .string ⟨#[]⟩], .int .i64 9]) (by simp [results, Tryz.results12, go_sem, d0, d1, d2]; try rfl) rfl ⟨rfl, hBz⟩
        | true =>
          obtain rfl := h05 _ rfl hp rfl rfl
          clear hp h01 h02 h03 h04 h05
          go_enter Tryz.func12, Tryz.ntmps12
          go_wp2_with fail
          refine (hR.out _ hS0.out.bel).mono ?_
          clear hR
          rintro e w3 ⟨v3, rfl, hr3⟩
          obtain ⟨a3, c3, rfl⟩ := hr3.row.shape
          obtain ⟨wn, hwn⟩ : ∃ wn, w3.alloc (.cells #[.string T, .slice a3 sg.length c3] 32) = wn := ⟨_, rfl⟩
          have hbn : Below w3.heap.size w3 wn := by rw [← hwn]; exact bel_alloc _ _
          have hS3 := Box.mk ((hS0.out.on hr3.bel).on hbn)
          have hG3 := Box.mk (hr3.sigs.here hbn)
          have hN3 : Box (Pk.Blk wn w3.heap.size [.string T, .slice a3 sg.length c3] 32) := ⟨by rw [← hwn]; exact Pk.Blk.new w3 _ _⟩
          have n0 : wn.cell? ⟨w3.heap.size, 0, none⟩ = some (.string T) := hN3.out.cell 0
          have n1 : wn.cell? ⟨w3.heap.size, 1, none⟩ = some (.slice a3 sg.length c3) := hN3.out.cell 1
          obtain ⟨bn, hbn2⟩ : ∃ b, w3.heap.size = b := ⟨_, rfl⟩
          rw [hbn2] at hN3 n0 n1
          have hF := hP.out wn hS3.out.bel
          clear hr3 hbn hS0
          go_wp2_with fail
          refine hF.mono ?_
          clear hF n0 n1 hP
          rintro e w4 ⟨rfl, hb⟩
          obtain ⟨wc, hwc⟩ : ∃ wc, w4.alloc (.cells #[.string c1, .int .i64 c2, .string c3'] 23) = wc := ⟨_, rfl⟩
          have hbc : Below w4.heap.size w4 wc := by rw [← hwc]; exact bel_alloc _ _
          have hS4 := Box.mk ((hS3.out.on hb).on hbc)
          have hG4 := Box.mk ((hG3.out.here hb).here hbc)
          have hN4a : Pk.Blk w4 bn [.string T, .slice a3 sg.length c3] 32 := (hb.block _ hN3.out.lt).trans hN3.out
          have hN4 : Box (Pk.Blk wc bn [.string T, .slice a3 sg.length c3] 32) := ⟨(hbc.block _ hN4a.lt).trans hN4a⟩
          have hC4 : Box (Pk.Blk wc w4.heap.size [.string c1, .int .i64 c2, .string c3'] 23) := ⟨by rw [← hwc]; exact Pk.Blk.new w4 _ _⟩
          obtain ⟨b8, hb8⟩ : ∃ b, w4.heap.size = b := ⟨_, rfl⟩
          rw [hb8] at hC4
          have hF := hC.out wc hS4.out.bel
          clear hb hbc hN4a hN3 hC
          obtain ⟨s0, s1, r0, r1, r2, f0, f1, f2⟩ := hS4.out.cells
          rw [if_pos trivial] at hF
          clear hS3 hG3
          go_wp2_with fail
          refine hF.mono ?_
          clear hF r0 r1 r2 f0 f1 f2 s0 s1
          rintro e w5 ⟨rfl, hb⟩
          have hS5 := Box.mk (hS4.out.on hb)
          have hG5 := Box.mk (hG4.out.here hb)
          have hN5 : Box (Pk.Blk w5 bn [.string T, .slice a3 sg.length c3] 32) := ⟨(hb.block _ hN4.out.lt).trans hN4.out⟩
          have hC5 : Box (Pk.Blk w5 b8 [.string c1, .int .i64 c2, .string c3'] 23) := ⟨(hb.block _ hC4.out.lt).trans hC4.out⟩
          have m0 : w5.cell? ⟨bn, 0, none⟩ = some (.string T) := hN5.out.cell 0
          have m1 : w5.cell? ⟨bn, 1, none⟩ = some (.slice a3 sg.length c3) := hN5.out.cell 1
          obtain ⟨s0, s1, r0, r1, r2, f0, f1, f2⟩ := hS5.out.cells
          have hF := hE.out w5 a3 c3 hS5.out.bel hG5.out
          clear hb hS4 hG4 hN4 hC4 hE hG5 hN5 hwc hwn
          go_wp2_with fail
          refine hF.mono ?_
          clear hF r0 r1 r2 f0 f1 f2 m0 m1 s0 s1
          rintro e w6 ⟨rfl, hb⟩
          have hS6 := Box.mk (hS5.out.on hb)
          have hC6 : Box (Pk.Blk w6 b8 [.string c1, .int .i64 c2, .string c3'] 23) := ⟨(hb.block _ hC5.out.lt).trans hC5.out⟩
          have k0 : w6.cell? ⟨b8, 0, none⟩ = some (.string c1) := hC6.out.cell 0
          have k1 : w6.cell? ⟨b8, 1, none⟩ = some (.int .i64 c2) := hC6.out.cell 1
          have k2 : w6.cell? ⟨b8, 2, none⟩ = some (.string c3') := hC6.out.cell 2
          clear hb hS5 hC5
          obtain ⟨_, _, r0, r1, r2, f0, f1, f2⟩ := hS6.out.cells
          have hfin := Box.mk (hS6.out.fin ⟨c1, c2, c3'⟩)
          go_wp2_with fail
          obtain ⟨d0, d1, d2, hBz⟩ := hfin.out
          unfold sdF at d0 d1 d2 hBz
          refine bodyPost_ret (v := .tuple #[.agg #[.string c1, .int .i64 c2, .string c3'], .int .i64 0]) (by simp [results, Tryz.results12, go_sem, d0, d1, d2]; try rfl) rfl ⟨rfl, hBz⟩
  · obtain rfl := h01 rfl
    clear hC hE hP h01 h02 h03 h04 h05
    unfold ck00
    go_enter Tryz.func12, Tryz.ntmps12
    go_wp2_with fail
    refine (hR.out _ hS0.out.bel).mono ?_
    clear hR
    rintro e w3 ⟨v3, rfl, hr3⟩
    obtain ⟨a3, c3, rfl⟩ := hr3.row.shape
    have hS3 := Box.mk ((hS0.out.on hr3.bel).on (bel_alloc w3 (.cells #[.string T, .slice a3 sg.length c3] 32)))
    clear hr3
    obtain ⟨_, _, r0, r1, r2, f0, f1, f2⟩ := hS3.out.cells
    have hfin := Box.mk (hS3.out.fin ck00)
    go_wp2_with fail
    obtain ⟨d0, d1, d2, hBz⟩ := hfin.out
    unfold sdF ck00 at d0 d1 d2 hBz
    refine bodyPost_ret (v := .tuple #[.agg #[.string ⟨#[]⟩, .int .i64 0, .string ⟨#[]⟩], .int .i64 3]) (by simp [results, Tryz.results12, go_sem, d0, d1, d2]; try rfl) rfl ⟨rfl, hBz⟩
end Go.Proofs.YtdjppgmaokcgiaaGreatDoor.Nt

namespace Go.Proofs.YtdjppgmaokcgiaaGreatDoor.Nt
open Go Go.RowKit

theorem fmV_all (t : ByteArray) (sg : List (ByteArray × ByteArray)) : ∃ F G, fmV (t, sg) = .tuple #[.string F, .int .i64 G] ∧ F.size ≤ t.size + 35217 := by
  cases hg : gN (t, sg) with
  | false => exact ⟨_, _, fmV_no hg, Nat.zero_le _⟩
  | true => exact ⟨_, _, fmV_yes hg, by have := byN_len hg; show (byN (t, sg)).length ≤ _; omega⟩
theorem ckT_small {c : Ck} (h : gC c = true) : (ckT c).size ≤ 1000 := by
  have h1 := gO_size (gC_iff.1 h).1
  have h2 := (gC_iff.1 h).2
  rw [(ckT_eq c).symm]
  have h3 := txN_size c.n (by omega) (by omega)
  have h4 := hxT_size c.r
  simp only [ByteArray.size_append]
  have e1 : sT.size = 18 := rfl
  have e2 : sN.size = 1 := rfl
  omega
theorem sdV_tail (s : ByteArray) (ids : List ByteArray) (need : Int) : sdV (s ++ ⟨#[120]⟩) ids need = (ck00, 3) := by
  refine sdV_read ?_
  have h := rdN_tail s.data.toList 120 (by decide)
  have e : (s ++ ⟨#[120]⟩ : ByteArray).data.toList = s.data.toList ++ [120] := by simp
  exact (rd_none (by rw [e]; exact h)).2.2
/-- A row of bytes that came in. -/
structure ByIn (w : World) (a : Option Addr) (L : Nat) (bs : Nat → Nat) : Prop where
  out : 0 < L → ∃ blk off, a = some ⟨blk, off, none⟩ ∧ blk < w.heap.size ∧ ∀ i, i < L → bs i < 256 ∧ w.cell? ⟨blk, off + i, none⟩ = some (.int .u8 (bs i : Int))
/-- The set, the checkpoints read. -/
structure Se (w0 : World) (bs : Nat) (v : Value) (need : Int) (R : List ByteArray) (l : List (Nat × List Value)) (w : World) : Prop where
  set : Pk.Blk w bs [v, .int .i64 need] 42
  ids : PartsAt w v R
  cks : BK w0 23 l w
theorem Se.on {w0 w w' : World} {bs : Nat} {v : Value} {need : Int} {R : List ByteArray} {l : List (Nat × List Value)} (h : Se w0 bs v need R l w) (hb : Below w.heap.size w w') : Se w0 bs v need R l w' :=
  ⟨(hb.block _ h.set.lt).trans h.set, h.ids.here hb, h.cks.here hb⟩
theorem Se.add {w0 w : World} {bs : Nat} {v : Value} {need : Int} {R : List ByteArray} {l : List (Nat × List Value)} (h : Se w0 bs v need R l w) (cs : List Value) : Se w0 bs v need R ((w.heap.size, cs) :: l) (w.alloc (.cells cs.toArray 23)) :=
  ⟨((bel_alloc w _).block _ h.set.lt).trans h.set, h.ids.here (bel_alloc w _), h.cks.add cs⟩
/-- The seed of the i-th key. -/
def sd (i : Nat) : ByteArray := ⟨#[UInt8.ofNat (97 + i)]⟩
theorem rune_enc3 (i : Nat) (hi : i < 3) : Utf8.encode (97 + (i : Int)) = sd i := by
  obtain rfl | rfl | rfl : i = 0 ∨ i = 1 ∨ i = 2 := by omega
  all_goals decide +kernel
set_option maxHeartbeats 12800000 in
set_option maxRecDepth 100000 in
theorem law_signed (c : Ck) (ba : Option Addr) (L cap : Nat) (bs : Nat → Nat) (need : Int) (w : World) (hL : NL w.heap.size w) (hK : KIs w) (ho : c.o.size ≤ 140737488351232) (hr : c.r.size ≤ 140737488351232)
    (hy : ByIn w ba L bs) (hLc : L ≤ cap) (hcm : cap ≤ maxLen) :
    Calls Tryz.prog 3 #[ckV c, .slice ba L cap, .int .i64 need] w fun e w' => e = .returned (.bool true) ∧ Below w.heap.size w w' := by
  have hA1 := Box.mk ((BK.start w 23).add [.string c.o, .int .i64 c.n, .string c.r])
  have hTl := Box.mk (fun w' (h : Below w.heap.size w w') => tells_any w.heap.size w' (hL.here (Nat.le_refl _) h) h.size)
  have hT1 := Box.mk (fun w' (h : Below w.heap.size w w') => dtext_any c w.heap.size w' (hL.here (Nat.le_refl _) h) h.size (by omega) (by omega))
  have hSg := Box.mk (fun (s : ByteArray) v ids w' (h : Below w.heap.size w w') (h1 : s.size ≤ 536870912) (h2 : PartsAt w' v ids) (h3 : ids.length ≤ maxLen) => signed_any s v ids need w.heap.size w' (hL.here (Nat.le_refl _) h) h.size (hK.below h hK.lt) h1 h2 h3)
  have hDg := Box.mk (fun (s : ByteArray) v ids w' (h : Below w.heap.size w w') (h1 : s.size ≤ 536870912) (h2 : PartsAt w' v ids) (h3 : ids.length ≤ maxLen) => dsigned_any s v ids need w.heap.size w' (hL.here (Nat.le_refl _) h) h.size (hK.below h hK.lt) h1 h2 h3)
  obtain ⟨i0, hi0, hz0, hz1, hz2⟩ := info_parts info_sig
  have heql := Box.mk eql_ck
  have hgde := Box.mk guard_eql
  obtain ⟨m, hmin, hmL, hm8⟩ : ∃ m : Nat, min (L : Int) 8 = (m : Int) ∧ m ≤ L ∧ m ≤ 8 := ⟨min L 8, by omega, by omega, by omega⟩
  have hmc : m ≤ cap := by omega
  have hyB := Box.mk hy
  have hcapB := Box.mk hcm
  clear hL hK ho hr hy hcm
  cases hg : gC c with
  | true =>
    rw [txtV_yes hg] at hT1
    have hTz := ckT_small hg
    obtain ⟨T, hT⟩ : ∃ T, ckT c = T := ⟨_, rfl⟩
    rw [hT] at hT1 hTz
    unfold ckV
    clear hg hT
    go_enter Tryz.func3, Tryz.ntmps3
    go_wp2_with fail
    have hF := hTl.out _ hA1.out.1
    refine hF.mono ?_
    clear hF hTl
    rintro e w2 ⟨rfl, hb⟩
    have hA2 := Box.mk (hA1.out.here hb)
    obtain ⟨a0, a1, a2⟩ := hA2.out.get3 (List.mem_singleton.2 rfl)
    have hF := hT1.out w2 hA2.out.1
    clear hb hA1
    go_wp2_with fail
    refine hF.mono ?_
    clear hF a0 a1 a2
    rintro e w3 ⟨rfl, hb⟩
    have hB3 := Box.mk (mono_bel hA2.out.1 hb (Nat.le_refl _))
    clear hb hA2
    clear hT1
    have hA0 : Box (LR w w3.heap.size T (.slice none 0 0) [] (.slice none 0 0) [] (w3.alloc (.cells #[.string T, .slice none 0 0] 32))) := ⟨by
      have hbA := mono_bel hB3.out (bel_alloc w3 (.cells #[.string T, .slice none 0 0] 32)) (Nat.le_refl _)
      exact ⟨⟨Pk.Blk.new w3 _ _, TxR.nil _ _, hbA, hB3.out.size⟩, ⟨Pk.Row.nil _ _ _, (fun k hk => by cases hk), hbA⟩⟩⟩
    go_wp2_with fail
    obtain ⟨bn, hbn⟩ : ∃ b, w3.heap.size = b := ⟨_, rfl⟩
    rw [hbn] at hA0 ⊢
    go_loopw [9, 35] (fun v9 q wr => ∃ (i : Nat) (ids : List ByteArray) (v : Value) (sg : List (ByteArray × ByteArray)), i ≤ 3 ∧ q = .int .i64 (i : Int) ∧ ids.length = i ∧ sg.length ≤ 8 * i ∧ Box (LR w bn T v9 ids v sg wr)) (fun _ q _ => 3 - (intOf q).toNat)
    case atStart => exact ⟨0, [], _, [], by omega, rfl, rfl, by simp, hA0⟩
    case round =>
      clear hA0 hbn hB3
      obtain ⟨i, ids, v, sg, hi, rfl, hids, hsl, hA⟩ := hrel
      obtain ⟨a9, c9, rfl⟩ := hA.out.a.ids.shape
      replace hids := Box.mk hids
      by_cases hlt : i < 3
      · have hN := r6new0 (sd i) wr (by show 1 ≤ _; decide)
        obtain ⟨S, hS⟩ : ∃ S, Utf8.encode (97 + (i : Int)) = S := ⟨_, rfl⟩
        have hSs : sd i = S := (rune_enc3 i hlt).symm.trans hS
        rw [hSs] at hN
        replace hS := Box.mk hS
        have hSz : Box (S.size ≤ 140737488351232) := ⟨by rw [← hSs]; show 1 ≤ _; decide⟩
        have hix : (i : Int) < 3 := by omega
        clear hSs
        go_wp2_with fail
        rw [hS.out]
        clear hS
        refine hN.mono ?_
        clear hN
        rintro e w2 ⟨rfl, hk2, hb2⟩
        have hA2 := Box.mk (hA.out.on hb2)
        have hF := r6ID_any wr.heap.size S 0 0 w2 hk2.1
        have hown := Box.mk (fun k (hk : (Value.slice a9 ids.length c9).ownBlock = some k) => (hA.out.a.ids.own k hk).2)
        obtain ⟨kb, hkb⟩ : ∃ b, wr.heap.size = b := ⟨_, rfl⟩
        rw [hkb] at hk2 hF hown
        replace hk2 := Box.mk hk2
        obtain ⟨y, hye⟩ : ∃ y, keyID S 0 = y := ⟨_, rfl⟩
        rw [hye] at hF
        replace hye := Box.mk hye
        clear hb2 hA
        go_wp2_with fail
        refine hF.mono ?_
        clear hF
        rintro e w4 ⟨rfl, hb4⟩
        have hb5 := mono_bel hb4 (bel_alloc w4 (.cells #[.string y] 9)) (Nat.le_refl _)
        have hA5 := Box.mk (hA2.out.on hb5)
        have hy5 := Box.mk (parts_new w4 [y] 9)
        replace hb5 := Box.mk hb5
        clear hb4 hA2
        go_wp2_with (at_builtin; refine wpList_pushT rfl (.tmp 46) (.tmp 49) rfl w.heap.size _ ids [y] rfl hA5.out.a.ids (by have := hA5.out.a.bel.size; exact this) (some ⟨w4.heap.size, 0, none⟩) 1 1 rfl rfl hy5.out (by have := hids.out; omega) ?_)
        intro v3 w6 hp
        have hA6 := Box.mk (hA5.out.id hp)
        have hk6 := Box.mk (hk2.out.2 _ w6 ((chg0 hb5.out).trans hp.chg fun _ _ h => h) (fun k hk hS2 => by have := hown.out k hS2; omega))
        obtain ⟨ids2, hids2⟩ : ∃ l, ids ++ [y] = l := ⟨_, rfl⟩
        have hidl : ids2.length = i + 1 := by rw [← hids2, List.length_append, hids.out]; rfl
        rw [hids2] at hA6
        have hB8 : sg.length ≤ 8 * i + 0 := by omega
        clear hp hA5 hy5 hb5 hk2 hown hids hids2 hsl
        go_wp2_with fail
        go_loopw [57] (fun q wr => ∃ (j : Nat) (v : Value) (sg : List (ByteArray × ByteArray)), j ≤ m ∧ q = .int .i64 (j : Int) ∧ sg.length ≤ 8 * i + j ∧ Box (LR w bn T v3 ids2 v sg wr) ∧ Box (QKey wr kb S 0 0)) (fun q _ => m - (intOf q).toNat)
        case atStart => exact ⟨0, v, sg, by omega, rfl, hB8, hA6, hk6⟩
        case round =>
          clear hA6 hk6 hB8
          obtain ⟨j, v, sg, hj, rfl, hsl, hA, hk⟩ := hrel
          by_cases hjm : j < m
          · obtain ⟨blk, off, rfl, hbl, hc⟩ := hyB.out.out (by omega)
            obtain ⟨hx, k0⟩ := hc j (by omega)
            replace k0 := (hA.out.a.bel.cell (p := ⟨blk, off + j, none⟩) hbl).trans k0
            obtain ⟨x, hxe⟩ : ∃ x, bs j = x := ⟨_, rfl⟩
            rw [hxe] at k0 hx
            have hm8 : (x : Int).tmod 8 = ((x % 8 : Nat) : Int) := by rw [Int.tmod_eq_emod_of_nonneg (by omega)]; simp
            have h88 : x % 8 < 8 := Nat.mod_lt _ (by decide)
            obtain ⟨n8, hn8⟩ : ∃ n, x % 8 = n := ⟨_, rfl⟩
            rw [hn8] at hm8 h88
            have hjj : (j : Int) < (m : Int) := by omega
            clear hbl hc hxe hn8
            by_cases h17 : n8 = i
            · rw [h17] at hm8
              have hb1 : ((i : Int) == (i : Int) + 3) = false := by rw [beq_eq_false_iff_ne]; omega
              clear h17 h88
              obtain ⟨a5, c5, rfl⟩ := hA.out.row.row.shape
              have hC0 : Box (LC w bn T v3 ids2 (.slice a5 sg.length c5) kb S (.slice a5 sg.length c5) sg wr) := ⟨⟨⟨hA.out.a, hk.out⟩, hA.out.row⟩⟩
              obtain ⟨z, hz⟩ : ∃ z, keyS S 0 0 (T) = z := ⟨_, rfl⟩
              replace hz := Box.mk hz
              clear hA hk
              go_wp2_with fail
              refine region_steadyC (LB w bn T v3 ids2 (.slice a5 sg.length c5) kb S) (LC w bn T v3 ids2 (.slice a5 sg.length c5) kb S (.slice a5 sg.length c5) sg) (fun w w' => Below w.heap.size w w') rfl (LC.on hC0.out (dB wr)) ?_
              clear hC0
              refine anyS_calms [0, 1, 2, 4, 5] 7 rfl (fun _ => Below.refl _ _) LC.st (by kernel_rfl) (by kernel_rfl) (by kernel_rfl) ?_
              simp [nth]
              try simp only [Act.put, List.setIfInBounds_toArray, List.set_cons_succ, List.set_cons_zero]
              repeat (go_big_quiet_step (first | exact fun _ => rfl | rfl))
              refine quiet_val rfl (.slice a5 sg.length c5) (fun w' hw' => by have h3 : w'.cell? ⟨bn, 1, none⟩ = some (.slice a5 sg.length c5) := hw'.a.note.cell 1; go_simp) ?_
              simp only [Act.put, List.setIfInBounds_toArray, List.set_cons_succ, List.set_cons_zero]
              repeat (go_big_quiet_step (first | exact fun _ => rfl | rfl))
              refine wpQuiet_nil ?_
              refine anyS_call 3 (.string y) (fun _ => Below.refl _ _) LC.st (by kernel_rfl) rfl (by kernel_rfl) (by kernel_rfl) rfl (fun w' hw' => by rw [← hye.out]; exact r6ID_any kb S 0 0 w' hw'.key) (fun w' _ => by go_simp) ?_
              refine anyS_call 6 (.string z) (fun _ => Below.refl _ _) LC.st (by kernel_rfl) rfl (by kernel_rfl) (by kernel_rfl) rfl (fun w' hw' => by rw [← hz.out]; exact r6at_any kb S (T) 0 0 0 w' hw'.key (by decide) hSz.out (by omega)) (fun w' _ => by go_simp) ?_
              refine anyS_calms [7] 4 rfl (fun _ => Below.refl _ _) LC.st (by kernel_rfl) (by kernel_rfl) (by kernel_rfl) ?_
              simp [nth]
              try simp only [Act.put, List.setIfInBounds_toArray, List.set_cons_succ, List.set_cons_zero]
              repeat (go_big_quiet_step (first | exact fun _ => rfl | rfl))
              refine wpQuiet_nil ?_
              refine anyS_forced 8 (by kernel_rfl) rfl rfl (fun wb hWb K hK => ?_)
              obtain ⟨wc, hwc⟩ : ∃ wc, wb.alloc (.cells #[.string y, .string z] 39) = wc := ⟨_, rfl⟩
              have hbc : Below wb.heap.size wb wc := by rw [← hwc]; exact bel_alloc _ _
              have hQ : Pk.Blk wc wb.heap.size (sigC (y, z)) 39 := by rw [← hwc]; exact Pk.Blk.new wb _ _
              have hWc := LC.on hWb hbc
              obtain ⟨bq, hbq⟩ : ∃ b, wb.heap.size = b := ⟨_, rfl⟩
              rw [hbq] at hQ
              go_simp
              refine hK _ _ (LD w bn T v3 ids2 (.slice a5 sg.length c5) kb S (.slice a5 sg.length c5) sg bq (y, z)) LD.st ⟨hWc, hQ⟩ ?_
              clear hK K hwc hbc hQ hWc hbq hWb wb wc
              refine anyS_forced 9 (by kernel_rfl) rfl rfl (fun wd hWd K hK => ?_)
              refine wp_pushG (.tmp 67) (.tmp 74) rfl (.slice a5 sg.length c5) sg.length (sgC sg) rfl hWd.1.2.row (some ⟨bq, 0, none⟩) 1 1 [(y, z)] rfl rfl (sig_blk hWd.2) (by omega) ?_
              intro v5 w5 hp5
              have hN := LC.push hWd.1 hp5
              refine hK _ _ (LC w bn T v3 ids2 (.slice a5 sg.length c5) kb S v5 (sg ++ [(y, z)])) LC.st hN ?_
              clear hK K hp5 hN hWd wd w5
              refine anyS_calms [10] 1 rfl (fun _ => Below.refl _ _) LC.st (by kernel_rfl) (by kernel_rfl) (by kernel_rfl) ?_
              simp [nth]
              try simp only [Act.put, List.setIfInBounds_toArray, List.set_cons_succ, List.set_cons_zero]
              repeat (go_big_quiet_step (first | exact fun _ => rfl | rfl))
              refine wpQuiet_nil ?_
              refine anyS_last 11 (by kernel_rfl) rfl rfl (by kernel_rfl) (by kernel_rfl) (fun w7 hC7 K hK => ?_)
              have g1 := hC7.1.a.note.free 1
              have g0 : w7.cell? ⟨bn, 1, none⟩ = some (.slice a5 sg.length c5) := hC7.1.a.note.cell 1
              obtain ⟨a8, c8, hv5⟩ := hC7.2.row.shape
              obtain ⟨n7, hn7⟩ : ∃ n, (sg ++ [(y, z)]).length = n := ⟨_, rfl⟩
              rw [hn7] at hv5
              subst hv5
              obtain ⟨hA7, hk7⟩ := LC.store hC7
              replace hA7 := Box.mk hA7
              replace hk7 := Box.mk hk7
              clear hC7
              go_simp
              refine hK _ _ ?_
              clear hK K g0 g1
              have hs7 : (sg ++ [(y, z)]).length ≤ 8 * i + (j + 1) := by rw [List.length_append]; show sg.length + 1 ≤ _; omega
              clear hn7
              obtain ⟨sg7, hsg7⟩ : ∃ l, sg ++ [(y, z)] = l := ⟨_, rfl⟩
              obtain ⟨w8, hw8⟩ : ∃ w8, w7.setCell ⟨bn, 1, none⟩ (.slice a8 n7 c8) = w8 := ⟨_, rfl⟩
              rw [hsg7, hw8] at hA7
              rw [hw8] at hk7 ⊢
              rw [hsg7] at hs7
              clear hsg7 hw8
              go_wp2_with fail
              exact ⟨⟨j + 1, _, sg7, by omega, by go_num, hs7, hA7, hk7⟩, by simp [intOf]; omega⟩
            · have hb1 : ((n8 : Int) == (i : Int)) = false := by rw [beq_eq_false_iff_ne]; omega
              by_cases h19 : n8 = i + 3
              · have hn3 : (n8 : Int) = (i : Int) + 3 := by omega
                rw [hn3] at hm8 hb1
                clear h17 h19 h88 hn3
                obtain ⟨Tx, hTx⟩ : ∃ z, T ++ (⟨#[120]⟩ : ByteArray) = z := ⟨_, rfl⟩
                have hTxz : Tx.size ≤ 2000 := by rw [← hTx, ByteArray.size_append]; show T.size + 1 ≤ _; omega
                obtain ⟨a5, c5, rfl⟩ := hA.out.row.row.shape
                have hC0 : Box (LC w bn T v3 ids2 (.slice a5 sg.length c5) kb S (.slice a5 sg.length c5) sg wr) := ⟨⟨⟨hA.out.a, hk.out⟩, hA.out.row⟩⟩
                obtain ⟨z, hz⟩ : ∃ z, keyS S 0 0 (Tx) = z := ⟨_, rfl⟩
                replace hz := Box.mk hz
                clear hA hk
                go_wp2_with fail
                refine region_steadyC (LB w bn T v3 ids2 (.slice a5 sg.length c5) kb S) (LC w bn T v3 ids2 (.slice a5 sg.length c5) kb S (.slice a5 sg.length c5) sg) (fun w w' => Below w.heap.size w w') rfl (LC.on hC0.out (dB wr)) ?_
                clear hC0
                refine anyS_calms [0, 1, 2, 4, 5, 6] 7 rfl (fun _ => Below.refl _ _) LC.st (by kernel_rfl) (by kernel_rfl) (by kernel_rfl) ?_
                simp [nth]
                try simp only [Act.put, List.setIfInBounds_toArray, List.set_cons_succ, List.set_cons_zero]
                repeat (go_big_quiet_step (first | exact fun _ => rfl | rfl))
                refine quiet_val rfl (.slice a5 sg.length c5) (fun w' hw' => by have h3 : w'.cell? ⟨bn, 1, none⟩ = some (.slice a5 sg.length c5) := hw'.a.note.cell 1; go_simp) ?_
                simp only [Act.put, List.setIfInBounds_toArray, List.set_cons_succ, List.set_cons_zero]
                go_big_quiet_step (first | exact fun _ => rfl | rfl)
                go_big_quiet_step (first | exact fun _ => rfl | rfl)
                go_big_quiet_step (first | exact fun _ => rfl | rfl)
                refine quiet_val rfl (.string Tx) (fun w' hw' => by go_simp; omega) ?_
                simp only [Act.put, List.setIfInBounds_toArray, List.set_cons_succ, List.set_cons_zero]
                refine wpQuiet_nil ?_
                refine anyS_call 3 (.string y) (fun _ => Below.refl _ _) LC.st (by kernel_rfl) rfl (by kernel_rfl) (by kernel_rfl) rfl (fun w' hw' => by rw [← hye.out]; exact r6ID_any kb S 0 0 w' hw'.key) (fun w' _ => by go_simp) ?_
                refine anyS_call 7 (.string z) (fun _ => Below.refl _ _) LC.st (by kernel_rfl) rfl (by kernel_rfl) (by kernel_rfl) rfl (fun w' hw' => by rw [← hz.out]; exact r6at_any kb S (Tx) 0 0 0 w' hw'.key (by decide) hSz.out (by omega)) (fun w' _ => by go_simp) ?_
                refine anyS_calms [8] 4 rfl (fun _ => Below.refl _ _) LC.st (by kernel_rfl) (by kernel_rfl) (by kernel_rfl) ?_
                simp [nth]
                try simp only [Act.put, List.setIfInBounds_toArray, List.set_cons_succ, List.set_cons_zero]
                repeat (go_big_quiet_step (first | exact fun _ => rfl | rfl))
                refine wpQuiet_nil ?_
                refine anyS_forced 9 (by kernel_rfl) rfl rfl (fun wb hWb K hK => ?_)
                obtain ⟨wc, hwc⟩ : ∃ wc, wb.alloc (.cells #[.string y, .string z] 39) = wc := ⟨_, rfl⟩
                have hbc : Below wb.heap.size wb wc := by rw [← hwc]; exact bel_alloc _ _
                have hQ : Pk.Blk wc wb.heap.size (sigC (y, z)) 39 := by rw [← hwc]; exact Pk.Blk.new wb _ _
                have hWc := LC.on hWb hbc
                obtain ⟨bq, hbq⟩ : ∃ b, wb.heap.size = b := ⟨_, rfl⟩
                rw [hbq] at hQ
                go_simp
                refine hK _ _ (LD w bn T v3 ids2 (.slice a5 sg.length c5) kb S (.slice a5 sg.length c5) sg bq (y, z)) LD.st ⟨hWc, hQ⟩ ?_
                clear hK K hwc hbc hQ hWc hbq hWb wb wc
                refine anyS_forced 10 (by kernel_rfl) rfl rfl (fun wd hWd K hK => ?_)
                refine wp_pushG (.tmp 84) (.tmp 92) rfl (.slice a5 sg.length c5) sg.length (sgC sg) rfl hWd.1.2.row (some ⟨bq, 0, none⟩) 1 1 [(y, z)] rfl rfl (sig_blk hWd.2) (by omega) ?_
                intro v5 w5 hp5
                have hN := LC.push hWd.1 hp5
                refine hK _ _ (LC w bn T v3 ids2 (.slice a5 sg.length c5) kb S v5 (sg ++ [(y, z)])) LC.st hN ?_
                clear hK K hp5 hN hWd wd w5
                refine anyS_calms [11] 1 rfl (fun _ => Below.refl _ _) LC.st (by kernel_rfl) (by kernel_rfl) (by kernel_rfl) ?_
                simp [nth]
                try simp only [Act.put, List.setIfInBounds_toArray, List.set_cons_succ, List.set_cons_zero]
                repeat (go_big_quiet_step (first | exact fun _ => rfl | rfl))
                refine wpQuiet_nil ?_
                refine anyS_last 12 (by kernel_rfl) rfl rfl (by kernel_rfl) (by kernel_rfl) (fun w7 hC7 K hK => ?_)
                have g1 := hC7.1.a.note.free 1
                have g0 : w7.cell? ⟨bn, 1, none⟩ = some (.slice a5 sg.length c5) := hC7.1.a.note.cell 1
                obtain ⟨a8, c8, hv5⟩ := hC7.2.row.shape
                obtain ⟨n7, hn7⟩ : ∃ n, (sg ++ [(y, z)]).length = n := ⟨_, rfl⟩
                rw [hn7] at hv5
                subst hv5
                obtain ⟨hA7, hk7⟩ := LC.store hC7
                replace hA7 := Box.mk hA7
                replace hk7 := Box.mk hk7
                clear hC7
                go_simp
                refine hK _ _ ?_
                clear hK K g0 g1
                have hs7 : (sg ++ [(y, z)]).length ≤ 8 * i + (j + 1) := by rw [List.length_append]; show sg.length + 1 ≤ _; omega
                clear hn7
                obtain ⟨sg7, hsg7⟩ : ∃ l, sg ++ [(y, z)] = l := ⟨_, rfl⟩
                obtain ⟨w8, hw8⟩ : ∃ w8, w7.setCell ⟨bn, 1, none⟩ (.slice a8 n7 c8) = w8 := ⟨_, rfl⟩
                rw [hsg7, hw8] at hA7
                rw [hw8] at hk7 ⊢
                rw [hsg7] at hs7
                clear hsg7 hw8
                go_wp2_with fail
                exact ⟨⟨j + 1, _, sg7, by omega, by go_num, hs7, hA7, hk7⟩, by simp [intOf]; omega⟩
              · have hb2 : ((n8 : Int) == (i : Int) + 3) = false := by rw [beq_eq_false_iff_ne]; omega
                clear h17 h19
                go_wp2_with fail
                exact ⟨⟨j + 1, v, sg, by omega, by go_num, by omega, hA, hk⟩, by simp [intOf]; omega⟩
          · obtain rfl : j = m := by omega
            go_wp2_with fail
            exact ⟨⟨i + 1, ids2, v, sg, by omega, by go_num, hidl, by omega, hA⟩, by simp [intOf]; omega⟩
      · obtain rfl : i = 3 := by omega
        have hRl := ris_length ids
        have hF := rising_any (.slice a9 ids.length c9) ids wr hA.out.a.ids.parts (by have := hids.out; omega)
        obtain ⟨R, hRe⟩ : ∃ R, ris ids = R := ⟨_, rfl⟩
        rw [hRe] at hF hRl
        rw [hids.out] at hRl
        obtain ⟨a6, c6, rfl⟩ := hA.out.row.row.shape
        clear hlt hRe hyB hmin hmL hm8 hmc hcapB
        go_wp2_with fail
        refine hF.mono ?_
        clear hF
        rintro e w5 ⟨v5, rfl, hT5, hb5⟩
        have hp5 := hT5.parts
        obtain ⟨a5, c5, rfl⟩ := hT5.shape
        obtain ⟨wb, hwb⟩ : ∃ wb, w5.alloc (.cells #[.slice a5 R.length c5, .int .i64 need] 42) = wb := ⟨_, rfl⟩
        have hbb : Below w5.heap.size w5 wb := by rw [← hwb]; exact bel_alloc _ _
        have hA6 := Box.mk ((hA.out.on hb5).on hbb)
        have hSe : Box (Se w w5.heap.size (.slice a5 R.length c5) need R [] wb) := ⟨⟨by rw [← hwb]; exact Pk.Blk.new w5 _ _, hp5.here hbb, ⟨hA6.out.a.bel, fun p h => by cases h⟩⟩⟩
        have n0 : wb.cell? ⟨bn, 0, none⟩ = some (.string T) := hA6.out.a.note.cell 0
        have n1 : wb.cell? ⟨bn, 1, none⟩ = some (.slice a6 sg.length c6) := hA6.out.a.note.cell 1
        have hF := dformat_any T a6 sg.length c6 sg wb (by omega) hA6.out.row.sigs rfl (by omega)
        obtain ⟨F, G, hFG, hFz⟩ := fmV_all T sg
        rw [hFG] at hF
        obtain ⟨bs1, hbs1⟩ : ∃ b, w5.heap.size = b := ⟨_, rfl⟩
        rw [hbs1] at hSe
        clear hb5 hp5 hT5 hbb hFG hA hA6
        go_wp2_with fail
        refine hF.mono ?_
        clear hF n0 n1 hwb hbs1
        rintro e w7 ⟨rfl, hb⟩
        have hS7 := Box.mk (hSe.out.on hb)
        have s0 : w7.cell? ⟨bs1, 0, none⟩ = some (.slice a5 R.length c5) := hS7.out.set.cell 0
        have s1 : w7.cell? ⟨bs1, 1, none⟩ = some (.int .i64 need) := hS7.out.set.cell 1
        have hRm : R.length ≤ maxLen := by unfold maxLen; omega
        have hF := hSg.out F _ R w7 hS7.out.cks.1 (by omega) hS7.out.ids hRm
        obtain ⟨K, hKe⟩ : ∃ K, sdV F R need = K := ⟨_, rfl⟩
        rw [hKe] at hF
        obtain ⟨⟨k1, k2, k3⟩, E⟩ := K
        simp only at hF
        clear hb hSe
        go_wp2_with fail
        refine hF.mono ?_
        clear hF s0 s1
        rintro e w8 ⟨rfl, hb⟩
        have hS8 := Box.mk ((hS7.out.on hb).add [.string k1, .int .i64 k2, .string k3])
        obtain ⟨w9, hw9⟩ : ∃ w9, w8.alloc (.cells ([.string k1, .int .i64 k2, .string k3] : List Value).toArray 23) = w9 := ⟨_, rfl⟩
        obtain ⟨b19, hb19⟩ : ∃ b, w8.heap.size = b := ⟨_, rfl⟩
        rw [hw9, hb19] at hS8
        have s0 : w9.cell? ⟨bs1, 0, none⟩ = some (.slice a5 R.length c5) := hS8.out.set.cell 0
        have s1 : w9.cell? ⟨bs1, 1, none⟩ = some (.int .i64 need) := hS8.out.set.cell 1
        have hF := hDg.out F _ R w9 hS8.out.cks.1 (by omega) hS8.out.ids hRm
        rw [hKe] at hF
        simp only at hF
        clear hb hS7 hKe
        go_wp2_with fail
        refine hF.mono ?_
        clear hF s0 s1 hw9 hb19
        rintro e w10 ⟨rfl, hb⟩
        have hS10 := Box.mk ((hS8.out.on hb).add [.string k1, .int .i64 k2, .string k3])
        obtain ⟨w11, hw11⟩ : ∃ w9, w10.alloc (.cells ([.string k1, .int .i64 k2, .string k3] : List Value).toArray 23) = w9 := ⟨_, rfl⟩
        obtain ⟨b20, hb20⟩ : ∃ b, w10.heap.size = b := ⟨_, rfl⟩
        rw [hw11, hb20] at hS10
        have s0 : w11.cell? ⟨bs1, 0, none⟩ = some (.slice a5 R.length c5) := hS10.out.set.cell 0
        have s1 : w11.cell? ⟨bs1, 1, none⟩ = some (.int .i64 need) := hS10.out.set.cell 1
        have hF := hSg.out (F ++ ⟨#[120]⟩) _ R w11 hS10.out.cks.1 (by rw [ByteArray.size_append]; show F.size + 1 ≤ _; omega) hS10.out.ids hRm
        rw [sdV_tail] at hF
        simp only [ck00] at hF
        clear hb hS8
        go_wp2_with fail
        refine hF.mono ?_
        clear hF s0 s1 hw11 hb20
        rintro e w12 ⟨rfl, hb⟩
        have hS12 := Box.mk ((hS10.out.on hb).add [.string ⟨#[]⟩, .int .i64 0, .string ⟨#[]⟩])
        obtain ⟨b22, hb22⟩ : ∃ b, w12.heap.size = b := ⟨_, rfl⟩
        rw [hb22] at hS12
        obtain ⟨c0, c1, c2⟩ := hS12.out.cks.get3 (b := b22) (List.mem_cons.2 (.inl rfl))
        obtain ⟨d0, d1, d2⟩ := hS12.out.cks.get3 (b := b20) (List.mem_cons.2 (.inr (List.mem_cons.2 (.inl rfl))))
        obtain ⟨a0, a1, a2⟩ := hS12.out.cks.get3 (b := b19) (List.mem_cons.2 (.inr (List.mem_cons.2 (.inr (List.mem_singleton.2 rfl)))))
        have hne := heql.out
        have hgd := hgde.out
        have hB := Box.mk hS12.out.cks.1
        clear hb hS10 hS12
        go_wp2_with fail
        go_ret
        exact ⟨rfl, hB.out⟩
  | false =>
    rw [txtV_no hg] at hT1
    obtain ⟨T, hT⟩ : ∃ T : ByteArray, (⟨#[116, 10]⟩ : ByteArray) = T := ⟨_, rfl⟩
    have hTz : T.size ≤ 1000 := by rw [← hT]; decide
    unfold ckV
    clear hg
    go_enter Tryz.func3, Tryz.ntmps3
    go_wp2_with fail
    have hF := hTl.out _ hA1.out.1
    refine hF.mono ?_
    clear hF hTl
    rintro e w2 ⟨rfl, hb⟩
    have hA2 := Box.mk (hA1.out.here hb)
    obtain ⟨a0, a1, a2⟩ := hA2.out.get3 (List.mem_singleton.2 rfl)
    have hF := hT1.out w2 hA2.out.1
    clear hb hA1
    go_wp2_with fail
    refine hF.mono ?_
    clear hF a0 a1 a2
    rintro e w3 ⟨rfl, hb⟩
    have hB3 := Box.mk (mono_bel hA2.out.1 hb (Nat.le_refl _))
    clear hb hA2
    clear hT1
    have hA0 : Box (LR w w3.heap.size T (.slice none 0 0) [] (.slice none 0 0) [] (w3.alloc (.cells #[.string T, .slice none 0 0] 32))) := ⟨by
      have hbA := mono_bel hB3.out (bel_alloc w3 (.cells #[.string T, .slice none 0 0] 32)) (Nat.le_refl _)
      exact ⟨⟨Pk.Blk.new w3 _ _, TxR.nil _ _, hbA, hB3.out.size⟩, ⟨Pk.Row.nil _ _ _, (fun k hk => by cases hk), hbA⟩⟩⟩
    go_wp2_with fail
    obtain ⟨bn, hbn⟩ : ∃ b, w3.heap.size = b := ⟨_, rfl⟩
    rw [hbn] at hA0 ⊢
    rw [hT]
    clear hT
    go_loopw [9, 35] (fun v9 q wr => ∃ (i : Nat) (ids : List ByteArray) (v : Value) (sg : List (ByteArray × ByteArray)), i ≤ 3 ∧ q = .int .i64 (i : Int) ∧ ids.length = i ∧ sg.length ≤ 8 * i ∧ Box (LR w bn T v9 ids v sg wr)) (fun _ q _ => 3 - (intOf q).toNat)
    case atStart => exact ⟨0, [], _, [], by omega, rfl, rfl, by simp, hA0⟩
    case round =>
      clear hA0 hbn hB3
      obtain ⟨i, ids, v, sg, hi, rfl, hids, hsl, hA⟩ := hrel
      obtain ⟨a9, c9, rfl⟩ := hA.out.a.ids.shape
      replace hids := Box.mk hids
      by_cases hlt : i < 3
      · have hN := r6new0 (sd i) wr (by show 1 ≤ _; decide)
        obtain ⟨S, hS⟩ : ∃ S, Utf8.encode (97 + (i : Int)) = S := ⟨_, rfl⟩
        have hSs : sd i = S := (rune_enc3 i hlt).symm.trans hS
        rw [hSs] at hN
        replace hS := Box.mk hS
        have hSz : Box (S.size ≤ 140737488351232) := ⟨by rw [← hSs]; show 1 ≤ _; decide⟩
        have hix : (i : Int) < 3 := by omega
        clear hSs
        go_wp2_with fail
        rw [hS.out]
        clear hS
        refine hN.mono ?_
        clear hN
        rintro e w2 ⟨rfl, hk2, hb2⟩
        have hA2 := Box.mk (hA.out.on hb2)
        have hF := r6ID_any wr.heap.size S 0 0 w2 hk2.1
        have hown := Box.mk (fun k (hk : (Value.slice a9 ids.length c9).ownBlock = some k) => (hA.out.a.ids.own k hk).2)
        obtain ⟨kb, hkb⟩ : ∃ b, wr.heap.size = b := ⟨_, rfl⟩
        rw [hkb] at hk2 hF hown
        replace hk2 := Box.mk hk2
        obtain ⟨y, hye⟩ : ∃ y, keyID S 0 = y := ⟨_, rfl⟩
        rw [hye] at hF
        replace hye := Box.mk hye
        clear hb2 hA
        go_wp2_with fail
        refine hF.mono ?_
        clear hF
        rintro e w4 ⟨rfl, hb4⟩
        have hb5 := mono_bel hb4 (bel_alloc w4 (.cells #[.string y] 9)) (Nat.le_refl _)
        have hA5 := Box.mk (hA2.out.on hb5)
        have hy5 := Box.mk (parts_new w4 [y] 9)
        replace hb5 := Box.mk hb5
        clear hb4 hA2
        go_wp2_with (at_builtin; refine wpList_pushT rfl (.tmp 46) (.tmp 49) rfl w.heap.size _ ids [y] rfl hA5.out.a.ids (by have := hA5.out.a.bel.size; exact this) (some ⟨w4.heap.size, 0, none⟩) 1 1 rfl rfl hy5.out (by have := hids.out; omega) ?_)
        intro v3 w6 hp
        have hA6 := Box.mk (hA5.out.id hp)
        have hk6 := Box.mk (hk2.out.2 _ w6 ((chg0 hb5.out).trans hp.chg fun _ _ h => h) (fun k hk hS2 => by have := hown.out k hS2; omega))
        obtain ⟨ids2, hids2⟩ : ∃ l, ids ++ [y] = l := ⟨_, rfl⟩
        have hidl : ids2.length = i + 1 := by rw [← hids2, List.length_append, hids.out]; rfl
        rw [hids2] at hA6
        have hB8 : sg.length ≤ 8 * i + 0 := by omega
        clear hp hA5 hy5 hb5 hk2 hown hids hids2 hsl
        go_wp2_with fail
        go_loopw [57] (fun q wr => ∃ (j : Nat) (v : Value) (sg : List (ByteArray × ByteArray)), j ≤ m ∧ q = .int .i64 (j : Int) ∧ sg.length ≤ 8 * i + j ∧ Box (LR w bn T v3 ids2 v sg wr) ∧ Box (QKey wr kb S 0 0)) (fun q _ => m - (intOf q).toNat)
        case atStart => exact ⟨0, v, sg, by omega, rfl, hB8, hA6, hk6⟩
        case round =>
          clear hA6 hk6 hB8
          obtain ⟨j, v, sg, hj, rfl, hsl, hA, hk⟩ := hrel
          by_cases hjm : j < m
          · obtain ⟨blk, off, rfl, hbl, hc⟩ := hyB.out.out (by omega)
            obtain ⟨hx, k0⟩ := hc j (by omega)
            replace k0 := (hA.out.a.bel.cell (p := ⟨blk, off + j, none⟩) hbl).trans k0
            obtain ⟨x, hxe⟩ : ∃ x, bs j = x := ⟨_, rfl⟩
            rw [hxe] at k0 hx
            have hm8 : (x : Int).tmod 8 = ((x % 8 : Nat) : Int) := by rw [Int.tmod_eq_emod_of_nonneg (by omega)]; simp
            have h88 : x % 8 < 8 := Nat.mod_lt _ (by decide)
            obtain ⟨n8, hn8⟩ : ∃ n, x % 8 = n := ⟨_, rfl⟩
            rw [hn8] at hm8 h88
            have hjj : (j : Int) < (m : Int) := by omega
            clear hbl hc hxe hn8
            by_cases h17 : n8 = i
            · rw [h17] at hm8
              have hb1 : ((i : Int) == (i : Int) + 3) = false := by rw [beq_eq_false_iff_ne]; omega
              clear h17 h88
              obtain ⟨a5, c5, rfl⟩ := hA.out.row.row.shape
              have hC0 : Box (LC w bn T v3 ids2 (.slice a5 sg.length c5) kb S (.slice a5 sg.length c5) sg wr) := ⟨⟨⟨hA.out.a, hk.out⟩, hA.out.row⟩⟩
              obtain ⟨z, hz⟩ : ∃ z, keyS S 0 0 (T) = z := ⟨_, rfl⟩
              replace hz := Box.mk hz
              clear hA hk
              go_wp2_with fail
              refine region_steadyC (LB w bn T v3 ids2 (.slice a5 sg.length c5) kb S) (LC w bn T v3 ids2 (.slice a5 sg.length c5) kb S (.slice a5 sg.length c5) sg) (fun w w' => Below w.heap.size w w') rfl (LC.on hC0.out (dB wr)) ?_
              clear hC0
              refine anyS_calms [0, 1, 2, 4, 5] 7 rfl (fun _ => Below.refl _ _) LC.st (by kernel_rfl) (by kernel_rfl) (by kernel_rfl) ?_
              simp [nth]
              try simp only [Act.put, List.setIfInBounds_toArray, List.set_cons_succ, List.set_cons_zero]
              repeat (go_big_quiet_step (first | exact fun _ => rfl | rfl))
              refine quiet_val rfl (.slice a5 sg.length c5) (fun w' hw' => by have h3 : w'.cell? ⟨bn, 1, none⟩ = some (.slice a5 sg.length c5) := hw'.a.note.cell 1; go_simp) ?_
              simp only [Act.put, List.setIfInBounds_toArray, List.set_cons_succ, List.set_cons_zero]
              repeat (go_big_quiet_step (first | exact fun _ => rfl | rfl))
              refine wpQuiet_nil ?_
              refine anyS_call 3 (.string y) (fun _ => Below.refl _ _) LC.st (by kernel_rfl) rfl (by kernel_rfl) (by kernel_rfl) rfl (fun w' hw' => by rw [← hye.out]; exact r6ID_any kb S 0 0 w' hw'.key) (fun w' _ => by go_simp) ?_
              refine anyS_call 6 (.string z) (fun _ => Below.refl _ _) LC.st (by kernel_rfl) rfl (by kernel_rfl) (by kernel_rfl) rfl (fun w' hw' => by rw [← hz.out]; exact r6at_any kb S (T) 0 0 0 w' hw'.key (by decide) hSz.out (by omega)) (fun w' _ => by go_simp) ?_
              refine anyS_calms [7] 4 rfl (fun _ => Below.refl _ _) LC.st (by kernel_rfl) (by kernel_rfl) (by kernel_rfl) ?_
              simp [nth]
              try simp only [Act.put, List.setIfInBounds_toArray, List.set_cons_succ, List.set_cons_zero]
              repeat (go_big_quiet_step (first | exact fun _ => rfl | rfl))
              refine wpQuiet_nil ?_
              refine anyS_forced 8 (by kernel_rfl) rfl rfl (fun wb hWb K hK => ?_)
              obtain ⟨wc, hwc⟩ : ∃ wc, wb.alloc (.cells #[.string y, .string z] 39) = wc := ⟨_, rfl⟩
              have hbc : Below wb.heap.size wb wc := by rw [← hwc]; exact bel_alloc _ _
              have hQ : Pk.Blk wc wb.heap.size (sigC (y, z)) 39 := by rw [← hwc]; exact Pk.Blk.new wb _ _
              have hWc := LC.on hWb hbc
              obtain ⟨bq, hbq⟩ : ∃ b, wb.heap.size = b := ⟨_, rfl⟩
              rw [hbq] at hQ
              go_simp
              refine hK _ _ (LD w bn T v3 ids2 (.slice a5 sg.length c5) kb S (.slice a5 sg.length c5) sg bq (y, z)) LD.st ⟨hWc, hQ⟩ ?_
              clear hK K hwc hbc hQ hWc hbq hWb wb wc
              refine anyS_forced 9 (by kernel_rfl) rfl rfl (fun wd hWd K hK => ?_)
              refine wp_pushG (.tmp 67) (.tmp 74) rfl (.slice a5 sg.length c5) sg.length (sgC sg) rfl hWd.1.2.row (some ⟨bq, 0, none⟩) 1 1 [(y, z)] rfl rfl (sig_blk hWd.2) (by omega) ?_
              intro v5 w5 hp5
              have hN := LC.push hWd.1 hp5
              refine hK _ _ (LC w bn T v3 ids2 (.slice a5 sg.length c5) kb S v5 (sg ++ [(y, z)])) LC.st hN ?_
              clear hK K hp5 hN hWd wd w5
              refine anyS_calms [10] 1 rfl (fun _ => Below.refl _ _) LC.st (by kernel_rfl) (by kernel_rfl) (by kernel_rfl) ?_
              simp [nth]
              try simp only [Act.put, List.setIfInBounds_toArray, List.set_cons_succ, List.set_cons_zero]
              repeat (go_big_quiet_step (first | exact fun _ => rfl | rfl))
              refine wpQuiet_nil ?_
              refine anyS_last 11 (by kernel_rfl) rfl rfl (by kernel_rfl) (by kernel_rfl) (fun w7 hC7 K hK => ?_)
              have g1 := hC7.1.a.note.free 1
              have g0 : w7.cell? ⟨bn, 1, none⟩ = some (.slice a5 sg.length c5) := hC7.1.a.note.cell 1
              obtain ⟨a8, c8, hv5⟩ := hC7.2.row.shape
              obtain ⟨n7, hn7⟩ : ∃ n, (sg ++ [(y, z)]).length = n := ⟨_, rfl⟩
              rw [hn7] at hv5
              subst hv5
              obtain ⟨hA7, hk7⟩ := LC.store hC7
              replace hA7 := Box.mk hA7
              replace hk7 := Box.mk hk7
              clear hC7
              go_simp
              refine hK _ _ ?_
              clear hK K g0 g1
              have hs7 : (sg ++ [(y, z)]).length ≤ 8 * i + (j + 1) := by rw [List.length_append]; show sg.length + 1 ≤ _; omega
              clear hn7
              obtain ⟨sg7, hsg7⟩ : ∃ l, sg ++ [(y, z)] = l := ⟨_, rfl⟩
              obtain ⟨w8, hw8⟩ : ∃ w8, w7.setCell ⟨bn, 1, none⟩ (.slice a8 n7 c8) = w8 := ⟨_, rfl⟩
              rw [hsg7, hw8] at hA7
              rw [hw8] at hk7 ⊢
              rw [hsg7] at hs7
              clear hsg7 hw8
              go_wp2_with fail
              exact ⟨⟨j + 1, _, sg7, by omega, by go_num, hs7, hA7, hk7⟩, by simp [intOf]; omega⟩
            · have hb1 : ((n8 : Int) == (i : Int)) = false := by rw [beq_eq_false_iff_ne]; omega
              by_cases h19 : n8 = i + 3
              · have hn3 : (n8 : Int) = (i : Int) + 3 := by omega
                rw [hn3] at hm8 hb1
                clear h17 h19 h88 hn3
                obtain ⟨Tx, hTx⟩ : ∃ z, T ++ (⟨#[120]⟩ : ByteArray) = z := ⟨_, rfl⟩
                have hTxz : Tx.size ≤ 2000 := by rw [← hTx, ByteArray.size_append]; show T.size + 1 ≤ _; omega
                obtain ⟨a5, c5, rfl⟩ := hA.out.row.row.shape
                have hC0 : Box (LC w bn T v3 ids2 (.slice a5 sg.length c5) kb S (.slice a5 sg.length c5) sg wr) := ⟨⟨⟨hA.out.a, hk.out⟩, hA.out.row⟩⟩
                obtain ⟨z, hz⟩ : ∃ z, keyS S 0 0 (Tx) = z := ⟨_, rfl⟩
                replace hz := Box.mk hz
                clear hA hk
                go_wp2_with fail
                refine region_steadyC (LB w bn T v3 ids2 (.slice a5 sg.length c5) kb S) (LC w bn T v3 ids2 (.slice a5 sg.length c5) kb S (.slice a5 sg.length c5) sg) (fun w w' => Below w.heap.size w w') rfl (LC.on hC0.out (dB wr)) ?_
                clear hC0
                refine anyS_calms [0, 1, 2, 4, 5, 6] 7 rfl (fun _ => Below.refl _ _) LC.st (by kernel_rfl) (by kernel_rfl) (by kernel_rfl) ?_
                simp [nth]
                try simp only [Act.put, List.setIfInBounds_toArray, List.set_cons_succ, List.set_cons_zero]
                repeat (go_big_quiet_step (first | exact fun _ => rfl | rfl))
                refine quiet_val rfl (.slice a5 sg.length c5) (fun w' hw' => by have h3 : w'.cell? ⟨bn, 1, none⟩ = some (.slice a5 sg.length c5) := hw'.a.note.cell 1; go_simp) ?_
                simp only [Act.put, List.setIfInBounds_toArray, List.set_cons_succ, List.set_cons_zero]
                go_big_quiet_step (first | exact fun _ => rfl | rfl)
                go_big_quiet_step (first | exact fun _ => rfl | rfl)
                go_big_quiet_step (first | exact fun _ => rfl | rfl)
                refine quiet_val rfl (.string Tx) (fun w' hw' => by go_simp; omega) ?_
                simp only [Act.put, List.setIfInBounds_toArray, List.set_cons_succ, List.set_cons_zero]
                refine wpQuiet_nil ?_
                refine anyS_call 3 (.string y) (fun _ => Below.refl _ _) LC.st (by kernel_rfl) rfl (by kernel_rfl) (by kernel_rfl) rfl (fun w' hw' => by rw [← hye.out]; exact r6ID_any kb S 0 0 w' hw'.key) (fun w' _ => by go_simp) ?_
                refine anyS_call 7 (.string z) (fun _ => Below.refl _ _) LC.st (by kernel_rfl) rfl (by kernel_rfl) (by kernel_rfl) rfl (fun w' hw' => by rw [← hz.out]; exact r6at_any kb S (Tx) 0 0 0 w' hw'.key (by decide) hSz.out (by omega)) (fun w' _ => by go_simp) ?_
                refine anyS_calms [8] 4 rfl (fun _ => Below.refl _ _) LC.st (by kernel_rfl) (by kernel_rfl) (by kernel_rfl) ?_
                simp [nth]
                try simp only [Act.put, List.setIfInBounds_toArray, List.set_cons_succ, List.set_cons_zero]
                repeat (go_big_quiet_step (first | exact fun _ => rfl | rfl))
                refine wpQuiet_nil ?_
                refine anyS_forced 9 (by kernel_rfl) rfl rfl (fun wb hWb K hK => ?_)
                obtain ⟨wc, hwc⟩ : ∃ wc, wb.alloc (.cells #[.string y, .string z] 39) = wc := ⟨_, rfl⟩
                have hbc : Below wb.heap.size wb wc := by rw [← hwc]; exact bel_alloc _ _
                have hQ : Pk.Blk wc wb.heap.size (sigC (y, z)) 39 := by rw [← hwc]; exact Pk.Blk.new wb _ _
                have hWc := LC.on hWb hbc
                obtain ⟨bq, hbq⟩ : ∃ b, wb.heap.size = b := ⟨_, rfl⟩
                rw [hbq] at hQ
                go_simp
                refine hK _ _ (LD w bn T v3 ids2 (.slice a5 sg.length c5) kb S (.slice a5 sg.length c5) sg bq (y, z)) LD.st ⟨hWc, hQ⟩ ?_
                clear hK K hwc hbc hQ hWc hbq hWb wb wc
                refine anyS_forced 10 (by kernel_rfl) rfl rfl (fun wd hWd K hK => ?_)
                refine wp_pushG (.tmp 84) (.tmp 92) rfl (.slice a5 sg.length c5) sg.length (sgC sg) rfl hWd.1.2.row (some ⟨bq, 0, none⟩) 1 1 [(y, z)] rfl rfl (sig_blk hWd.2) (by omega) ?_
                intro v5 w5 hp5
                have hN := LC.push hWd.1 hp5
                refine hK _ _ (LC w bn T v3 ids2 (.slice a5 sg.length c5) kb S v5 (sg ++ [(y, z)])) LC.st hN ?_
                clear hK K hp5 hN hWd wd w5
                refine anyS_calms [11] 1 rfl (fun _ => Below.refl _ _) LC.st (by kernel_rfl) (by kernel_rfl) (by kernel_rfl) ?_
                simp [nth]
                try simp only [Act.put, List.setIfInBounds_toArray, List.set_cons_succ, List.set_cons_zero]
                repeat (go_big_quiet_step (first | exact fun _ => rfl | rfl))
                refine wpQuiet_nil ?_
                refine anyS_last 12 (by kernel_rfl) rfl rfl (by kernel_rfl) (by kernel_rfl) (fun w7 hC7 K hK => ?_)
                have g1 := hC7.1.a.note.free 1
                have g0 : w7.cell? ⟨bn, 1, none⟩ = some (.slice a5 sg.length c5) := hC7.1.a.note.cell 1
                obtain ⟨a8, c8, hv5⟩ := hC7.2.row.shape
                obtain ⟨n7, hn7⟩ : ∃ n, (sg ++ [(y, z)]).length = n := ⟨_, rfl⟩
                rw [hn7] at hv5
                subst hv5
                obtain ⟨hA7, hk7⟩ := LC.store hC7
                replace hA7 := Box.mk hA7
                replace hk7 := Box.mk hk7
                clear hC7
                go_simp
                refine hK _ _ ?_
                clear hK K g0 g1
                have hs7 : (sg ++ [(y, z)]).length ≤ 8 * i + (j + 1) := by rw [List.length_append]; show sg.length + 1 ≤ _; omega
                clear hn7
                obtain ⟨sg7, hsg7⟩ : ∃ l, sg ++ [(y, z)] = l := ⟨_, rfl⟩
                obtain ⟨w8, hw8⟩ : ∃ w8, w7.setCell ⟨bn, 1, none⟩ (.slice a8 n7 c8) = w8 := ⟨_, rfl⟩
                rw [hsg7, hw8] at hA7
                rw [hw8] at hk7 ⊢
                rw [hsg7] at hs7
                clear hsg7 hw8
                go_wp2_with fail
                exact ⟨⟨j + 1, _, sg7, by omega, by go_num, hs7, hA7, hk7⟩, by simp [intOf]; omega⟩
              · have hb2 : ((n8 : Int) == (i : Int) + 3) = false := by rw [beq_eq_false_iff_ne]; omega
                clear h17 h19
                go_wp2_with fail
                exact ⟨⟨j + 1, v, sg, by omega, by go_num, by omega, hA, hk⟩, by simp [intOf]; omega⟩
          · obtain rfl : j = m := by omega
            go_wp2_with fail
            exact ⟨⟨i + 1, ids2, v, sg, by omega, by go_num, hidl, by omega, hA⟩, by simp [intOf]; omega⟩
      · obtain rfl : i = 3 := by omega
        have hRl := ris_length ids
        have hF := rising_any (.slice a9 ids.length c9) ids wr hA.out.a.ids.parts (by have := hids.out; omega)
        obtain ⟨R, hRe⟩ : ∃ R, ris ids = R := ⟨_, rfl⟩
        rw [hRe] at hF hRl
        rw [hids.out] at hRl
        obtain ⟨a6, c6, rfl⟩ := hA.out.row.row.shape
        clear hlt hRe hyB hmin hmL hm8 hmc hcapB
        go_wp2_with fail
        refine hF.mono ?_
        clear hF
        rintro e w5 ⟨v5, rfl, hT5, hb5⟩
        have hp5 := hT5.parts
        obtain ⟨a5, c5, rfl⟩ := hT5.shape
        obtain ⟨wb, hwb⟩ : ∃ wb, w5.alloc (.cells #[.slice a5 R.length c5, .int .i64 need] 42) = wb := ⟨_, rfl⟩
        have hbb : Below w5.heap.size w5 wb := by rw [← hwb]; exact bel_alloc _ _
        have hA6 := Box.mk ((hA.out.on hb5).on hbb)
        have hSe : Box (Se w w5.heap.size (.slice a5 R.length c5) need R [] wb) := ⟨⟨by rw [← hwb]; exact Pk.Blk.new w5 _ _, hp5.here hbb, ⟨hA6.out.a.bel, fun p h => by cases h⟩⟩⟩
        have n0 : wb.cell? ⟨bn, 0, none⟩ = some (.string T) := hA6.out.a.note.cell 0
        have n1 : wb.cell? ⟨bn, 1, none⟩ = some (.slice a6 sg.length c6) := hA6.out.a.note.cell 1
        have hF := dformat_any T a6 sg.length c6 sg wb (by omega) hA6.out.row.sigs rfl (by omega)
        obtain ⟨F, G, hFG, hFz⟩ := fmV_all T sg
        rw [hFG] at hF
        obtain ⟨bs1, hbs1⟩ : ∃ b, w5.heap.size = b := ⟨_, rfl⟩
        rw [hbs1] at hSe
        clear hb5 hp5 hT5 hbb hFG hA hA6
        go_wp2_with fail
        refine hF.mono ?_
        clear hF n0 n1 hwb hbs1
        rintro e w7 ⟨rfl, hb⟩
        have hS7 := Box.mk (hSe.out.on hb)
        have s0 : w7.cell? ⟨bs1, 0, none⟩ = some (.slice a5 R.length c5) := hS7.out.set.cell 0
        have s1 : w7.cell? ⟨bs1, 1, none⟩ = some (.int .i64 need) := hS7.out.set.cell 1
        have hRm : R.length ≤ maxLen := by unfold maxLen; omega
        have hF := hSg.out F _ R w7 hS7.out.cks.1 (by omega) hS7.out.ids hRm
        obtain ⟨K, hKe⟩ : ∃ K, sdV F R need = K := ⟨_, rfl⟩
        rw [hKe] at hF
        obtain ⟨⟨k1, k2, k3⟩, E⟩ := K
        simp only at hF
        clear hb hSe
        go_wp2_with fail
        refine hF.mono ?_
        clear hF s0 s1
        rintro e w8 ⟨rfl, hb⟩
        have hS8 := Box.mk ((hS7.out.on hb).add [.string k1, .int .i64 k2, .string k3])
        obtain ⟨w9, hw9⟩ : ∃ w9, w8.alloc (.cells ([.string k1, .int .i64 k2, .string k3] : List Value).toArray 23) = w9 := ⟨_, rfl⟩
        obtain ⟨b19, hb19⟩ : ∃ b, w8.heap.size = b := ⟨_, rfl⟩
        rw [hw9, hb19] at hS8
        have s0 : w9.cell? ⟨bs1, 0, none⟩ = some (.slice a5 R.length c5) := hS8.out.set.cell 0
        have s1 : w9.cell? ⟨bs1, 1, none⟩ = some (.int .i64 need) := hS8.out.set.cell 1
        have hF := hDg.out F _ R w9 hS8.out.cks.1 (by omega) hS8.out.ids hRm
        rw [hKe] at hF
        simp only at hF
        clear hb hS7 hKe
        go_wp2_with fail
        refine hF.mono ?_
        clear hF s0 s1 hw9 hb19
        rintro e w10 ⟨rfl, hb⟩
        have hS10 := Box.mk ((hS8.out.on hb).add [.string k1, .int .i64 k2, .string k3])
        obtain ⟨w11, hw11⟩ : ∃ w9, w10.alloc (.cells ([.string k1, .int .i64 k2, .string k3] : List Value).toArray 23) = w9 := ⟨_, rfl⟩
        obtain ⟨b20, hb20⟩ : ∃ b, w10.heap.size = b := ⟨_, rfl⟩
        rw [hw11, hb20] at hS10
        have s0 : w11.cell? ⟨bs1, 0, none⟩ = some (.slice a5 R.length c5) := hS10.out.set.cell 0
        have s1 : w11.cell? ⟨bs1, 1, none⟩ = some (.int .i64 need) := hS10.out.set.cell 1
        have hF := hSg.out (F ++ ⟨#[120]⟩) _ R w11 hS10.out.cks.1 (by rw [ByteArray.size_append]; show F.size + 1 ≤ _; omega) hS10.out.ids hRm
        rw [sdV_tail] at hF
        simp only [ck00] at hF
        clear hb hS8
        go_wp2_with fail
        refine hF.mono ?_
        clear hF s0 s1 hw11 hb20
        rintro e w12 ⟨rfl, hb⟩
        have hS12 := Box.mk ((hS10.out.on hb).add [.string ⟨#[]⟩, .int .i64 0, .string ⟨#[]⟩])
        obtain ⟨b22, hb22⟩ : ∃ b, w12.heap.size = b := ⟨_, rfl⟩
        rw [hb22] at hS12
        obtain ⟨c0, c1, c2⟩ := hS12.out.cks.get3 (b := b22) (List.mem_cons.2 (.inl rfl))
        obtain ⟨d0, d1, d2⟩ := hS12.out.cks.get3 (b := b20) (List.mem_cons.2 (.inr (List.mem_cons.2 (.inl rfl))))
        obtain ⟨a0, a1, a2⟩ := hS12.out.cks.get3 (b := b19) (List.mem_cons.2 (.inr (List.mem_cons.2 (.inr (List.mem_singleton.2 rfl)))))
        have hne := heql.out
        have hgd := hgde.out
        have hB := Box.mk hS12.out.cks.1
        clear hb hS10 hS12
        go_wp2_with fail
        go_ret
        exact ⟨rfl, hB.out⟩
end Go.Proofs.YtdjppgmaokcgiaaGreatDoor.Nt
