/- A log's small calls: Size, Pending, Left, ID, Note, Leaf, issued; nil's. -/
import Derived.Test.YthnbhaffphopoaaGreatDoorHte
import Derived.Test.YthnbhaffphopoaaGreatDoorHtb
namespace Go.Proofs.YthnbhaffphopoaaGreatDoor.Tg
open Go Go.RowKit Go.Proofs.YthnbhaffphopoaaGreatDoor.Pk Go.Proofs.YthnbhaffphopoaaGreatDoor.Nt

/-! ### Of nil -/
section
variable (w : World)
set_option maxHeartbeats 800000 in
theorem tsize_nil : Calls Tryz.prog 16 #[.pointer none] w fun e w' => e = .returned (.int .i64 0) ∧ w = w' := by
  go_enter Tryz.func16, Tryz.ntmps16
  go_wp2_with fail
  go_ret
  exact ⟨rfl, rfl⟩
set_option maxHeartbeats 800000 in
theorem tpend_nil : Calls Tryz.prog 25 #[.pointer none] w fun e w' => e = .returned (.int .i64 0) ∧ w = w' := by
  go_enter Tryz.func25, Tryz.ntmps25
  go_wp2_with fail
  go_ret
  exact ⟨rfl, rfl⟩
set_option maxHeartbeats 800000 in
theorem tleft_nil : Calls Tryz.prog 41 #[.pointer none] w fun e w' => e = .returned (.int .i64 0) ∧ w = w' := by
  go_enter Tryz.func41, Tryz.ntmps41
  go_wp2_with fail
  go_ret
  exact ⟨rfl, rfl⟩
set_option maxHeartbeats 800000 in
theorem tid_nil : Calls Tryz.prog 27 #[.pointer none] w fun e w' => e = .returned (.string ⟨#[]⟩) ∧ w = w' := by
  go_enter Tryz.func27, Tryz.ntmps27
  go_wp2_with fail
  go_ret
  exact ⟨rfl, rfl⟩
set_option maxHeartbeats 800000 in
theorem tnote_nil : Calls Tryz.prog 40 #[.pointer none] w fun e w' => e = .returned (.string ⟨#[]⟩) ∧ w = w' := by
  go_enter Tryz.func40, Tryz.ntmps40
  go_wp2_with fail
  go_ret
  exact ⟨rfl, rfl⟩
set_option maxHeartbeats 800000 in
theorem tleaf_nil (i : Int) : Calls Tryz.prog 26 #[.pointer none, .int .i64 i] w fun e w' => e = .returned (.tuple #[.string ⟨#[]⟩, .int .i64 1]) ∧ w = w' := by
  go_enter Tryz.func26, Tryz.ntmps26
  go_wp2_with fail
  go_returns
  exact ⟨rfl, rfl⟩
set_option maxHeartbeats 800000 in
theorem tadd_nil (s : ByteArray) : Calls Tryz.prog 20 #[.pointer none, .string s] w fun e w' => e = .returned (.int .i64 1) ∧ w = w' := by
  go_enter Tryz.func20, Tryz.ntmps20
  go_wp2_with fail
  go_ret
  exact ⟨rfl, rfl⟩
set_option maxHeartbeats 800000 in
theorem tseq_nil : Calls Tryz.prog 21 #[.pointer none] w fun e w' => e = .returned (.tuple #[.int .i64 0, .int .i64 1]) ∧ w = w' := by
  go_enter Tryz.func21, Tryz.ntmps21
  go_wp2_with fail
  go_returns
  exact ⟨rfl, rfl⟩
set_option maxHeartbeats 800000 in
theorem tissue_nil : Calls Tryz.prog 22 #[.pointer none] w fun e w' => e = .returned (.tuple #[.string ⟨#[]⟩, .int .i64 1]) ∧ w = w' := by
  go_enter Tryz.func22, Tryz.ntmps22
  go_wp2_with fail
  go_returns
  exact ⟨rfl, rfl⟩
set_option maxHeartbeats 800000 in
theorem tfile_nil (s : ByteArray) : Calls Tryz.prog 39 #[.pointer none, .string s] w fun e w' => e = .returned (.tuple #[.string ⟨#[]⟩, .int .i64 1]) ∧ w = w' := by
  go_enter Tryz.func39, Tryz.ntmps39
  go_wp2_with fail
  go_returns
  exact ⟨rfl, rfl⟩
end

/-! ### Of a log -/
section
variable {w0 w : World} {p : Pl} {b h : Nat} {c : Cfg} {D : Dev} {L : LogM} {vl vh vp : Value} {X : Pk.Obj}
/-- A log's rows, as slices. -/
theorem tl_rows (hk : Kept w0 (Pair2 (TLo p b h c D L vl vh vp) X) w) : (∃ a cc, vl = .slice a L.lv.length cc ∧ PA w a L.lv.length cc L.lv) ∧ (∃ a cc, vh = .slice a L.lv.length cc ∧ PA w a L.lv.length cc (L.lv.map leafH)) ∧ ∃ a cc, vp = .slice a L.pd.length cc ∧ PA w a L.pd.length cc L.pd := by
  obtain ⟨F, h1, _⟩ := tl_lr hk
  refine ⟨txr_pa h1.rl, ?_, txr_pa h1.rp⟩
  have := txr_pa h1.rh
  rwa [List.length_map] at this
set_option maxHeartbeats 800000 in
theorem tsize_any (hk : Kept w0 (Pair2 (TLo p b h c D L vl vh vp) X) w) :
    Calls Tryz.prog 16 #[.pointer (some ⟨p.bl, 0, none⟩)] w fun e w' => e = .returned (.int .i64 (L.lv.length : Int)) ∧ w = w' := by
  obtain ⟨⟨a, cc, rfl, _⟩, _, _⟩ := tl_rows hk
  have c3 : w.cell? ⟨p.bl, 3, none⟩ = some (.slice a L.lv.length cc) := (tl_blk hk).cell 3
  obtain ⟨bl, hbl⟩ : ∃ x, p.bl = x := ⟨_, rfl⟩
  obtain ⟨n, hn⟩ : ∃ x, L.lv.length = x := ⟨_, rfl⟩
  rw [hbl, hn] at c3
  rw [hbl, hn]
  clear hk hbl hn
  go_enter Tryz.func16, Tryz.ntmps16
  go_wp2_with fail
  go_ret
  exact ⟨rfl, rfl⟩
set_option maxHeartbeats 800000 in
theorem tpend_any (hk : Kept w0 (Pair2 (TLo p b h c D L vl vh vp) X) w) :
    Calls Tryz.prog 25 #[.pointer (some ⟨p.bl, 0, none⟩)] w fun e w' => e = .returned (.int .i64 (L.pd.length : Int)) ∧ w = w' := by
  obtain ⟨_, _, a, cc, rfl, _⟩ := tl_rows hk
  have c3 : w.cell? ⟨p.bl, 5, none⟩ = some (.slice a L.pd.length cc) := (tl_blk hk).cell 5
  obtain ⟨bl, hbl⟩ : ∃ x, p.bl = x := ⟨_, rfl⟩
  obtain ⟨n, hn⟩ : ∃ x, L.pd.length = x := ⟨_, rfl⟩
  rw [hbl, hn] at c3
  rw [hbl, hn]
  clear hk hbl hn
  go_enter Tryz.func25, Tryz.ntmps25
  go_wp2_with fail
  go_ret
  exact ⟨rfl, rfl⟩
/-- What Leaf answers. -/
def leafV (l : List ByteArray) (i : Int) : Value := if 0 ≤ i ∧ i < (l.length : Int) then .tuple #[.string (l.getD i.toNat ByteArray.empty), .int .i64 0] else .tuple #[.string ⟨#[]⟩, .int .i64 5]
set_option maxHeartbeats 800000 in
theorem tleaf_log (hk : Kept w0 (Pair2 (TLo p b h c D L vl vh vp) X) w) (i : Int) :
    Calls Tryz.prog 26 #[.pointer (some ⟨p.bl, 0, none⟩), .int .i64 i] w fun e w' => e = .returned (leafV L.lv i) ∧ w = w' := by
  have hS := tsize_any hk
  obtain ⟨⟨a, cc, rfl, hP⟩, _, _⟩ := tl_rows hk
  have c3 : w.cell? ⟨p.bl, 3, none⟩ = some (.slice a L.lv.length cc) := (tl_blk hk).cell 3
  obtain ⟨bl, hbl⟩ : ∃ x, p.bl = x := ⟨_, rfl⟩
  rw [hbl] at hS c3 ⊢
  have hcap := hP.cap
  unfold leafV
  by_cases hi : 0 ≤ i ∧ i < (L.lv.length : Int)
  · obtain ⟨j, rfl⟩ : ∃ j : Nat, i = j := ⟨i.toNat, by omega⟩
    rw [if_pos hi, Int.toNat_natCast]
    obtain ⟨blk, off, rfl, hlt, hcell⟩ := hP.at_ (by omega)
    have hc := hcell j (by omega)
    obtain ⟨x, hx⟩ : ∃ x, L.lv.getD j ByteArray.empty = x := ⟨_, rfl⟩
    rw [hx] at hc ⊢
    obtain ⟨n, hn⟩ : ∃ x, L.lv.length = x := ⟨_, rfl⟩
    rw [hn] at hS c3 hi hcap
    have hjn : j < n := by omega
    have h0 : ¬ (j : Int) < 0 := by omega
    have h1 : ¬ (j : Int) ≥ (n : Int) := by omega
    clear hk hbl hP hcell hx hn hi
    go_enter Tryz.func26, Tryz.ntmps26
    go_wp2_with fail
    refine hS.mono ?_
    clear hS
    rintro e w1 ⟨rfl, rfl⟩
    go_wp2_with fail
    go_returns
    exact ⟨rfl, rfl⟩
  · rw [if_neg hi]
    obtain ⟨n, hn⟩ : ∃ x, L.lv.length = x := ⟨_, rfl⟩
    rw [hn] at hS hi
    clear hk hbl hP hn c3 hcap
    by_cases h0 : i < 0
    · go_enter Tryz.func26, Tryz.ntmps26
      go_wp2_with fail
      go_returns
      exact ⟨rfl, rfl⟩
    · have h1 : i ≥ (n : Int) := by omega
      clear hi
      go_enter Tryz.func26, Tryz.ntmps26
      go_wp2_with fail
      refine hS.mono ?_
      clear hS
      rintro e w1 ⟨rfl, rfl⟩
      go_wp2_with fail
      go_returns
      exact ⟨rfl, rfl⟩
set_option maxHeartbeats 800000 in
theorem tleft_any (hk : Kept w0 (Pair2 (TLo p b h c D L vl vh vp) X) w) (gX : Pk.Good X) (hu : L.u ≤ 2 ^ c.h) :
    Calls Tryz.prog 41 #[.pointer (some ⟨p.bl, 0, none⟩)] w fun e w' => e = .returned (.int .i64 ((2 ^ c.h - L.u : Nat) : Int)) ∧ Box (Kept w0 (Pair2 (TLo p b h c D L vl vh vp) X) w') := by
  have hF := kept_step hk (lift_key gX (kleft_does hu))
  have c1 : w.cell? ⟨p.bl, 1, none⟩ = some (.pointer (some ⟨p.bk, 0, none⟩)) := (tl_blk hk).cell 1
  obtain ⟨bl, hbl⟩ : ∃ x, p.bl = x := ⟨_, rfl⟩
  obtain ⟨bk, hbk⟩ : ∃ x, p.bk = x := ⟨_, rfl⟩
  obtain ⟨n, hn⟩ : ∃ x : Int, ((2 ^ c.h - L.u : Nat) : Int) = x := ⟨_, rfl⟩
  rw [hbl, hbk] at c1
  rw [hbk, hn] at hF
  rw [hbl, hn]
  replace hF := Box.mk hF
  clear hk hbl hbk hn hu
  go_enter Tryz.func41, Tryz.ntmps41
  go_wp2_with fail
  refine hF.out.mono ?_
  clear hF
  rintro e w1 ⟨rfl, hk1⟩
  go_wp2_with fail
  go_ret
  exact ⟨rfl, hk1⟩
set_option maxHeartbeats 800000 in
theorem tnote_any (hk : Kept w0 (Pair2 (TLo p b h c D L vl vh vp) X) w) (gX : Pk.Good X) :
    Calls Tryz.prog 40 #[.pointer (some ⟨p.bl, 0, none⟩)] w fun e w' => e = .returned (.string (noT L.C.now)) ∧ Box (Kept w0 (Pair2 (TLo p b h c D L vl vh vp) X) w') := by
  have hF := kept_step hk (lift_cel gX (get_does p.bd p.bc b h L.C ⟨#[110, 111, 116, 101]⟩ (by decide)).in_)
  have c1 : w.cell? ⟨p.bl, 2, none⟩ = some (.pointer (some ⟨p.bc, 0, none⟩)) := (tl_blk hk).cell 2
  have hv : getV L.C.now (⟨#[110, 111, 116, 101]⟩ : ByteArray).data.toList = .tuple #[.string (noT L.C.now), .bool (getC L.C.now nNo).isSome] := rfl
  rw [hv] at hF
  obtain ⟨bl, hbl⟩ : ∃ x, p.bl = x := ⟨_, rfl⟩
  obtain ⟨bk, hbk⟩ : ∃ x, p.bc = x := ⟨_, rfl⟩
  obtain ⟨n, hn⟩ : ∃ x, noT L.C.now = x := ⟨_, rfl⟩
  obtain ⟨y, hy⟩ : ∃ x, (getC L.C.now nNo).isSome = x := ⟨_, rfl⟩
  rw [hbl, hbk] at c1
  rw [hbk, hn, hy] at hF
  rw [hbl, hn]
  replace hF := Box.mk hF
  clear hk hbl hbk hn hv hy
  go_enter Tryz.func40, Tryz.ntmps40
  go_wp2_with fail
  refine hF.out.mono ?_
  clear hF
  rintro e w1 ⟨rfl, hk1⟩
  go_wp2_with fail
  go_ret
  exact ⟨rfl, hk1⟩
/-- The size that the last note's checkpoint says, below 0 where there is none. -/
def issI (ct : Ct) : Int := match pCk (rdT (noT ct)).data.toList with
  | some k => k.n
  | none => -1
theorem issI_isB (ct : Ct) (n : Nat) : issI ct = (n : Int) ↔ isB ct n = true := by
  unfold issI isB
  cases pCk (rdT (noT ct)).data.toList with
  | none => simp <;> omega
  | some k => simp
theorem noT_size {ct : Ct} (h : ct.ok) : (noT ct).size ≤ 65535 := by unfold noT ctT; rw [mk_size]; exact ct_len h _
theorem rdT_size (s : ByteArray) : (rdT s).size ≤ s.size := by
  cases hr : rdN s.data.toList with
  | none => rw [(rd_none hr).1]; exact Nat.zero_le _
  | some n =>
    obtain ⟨h1, _, _⟩ := rd_some hr
    have h2 := (rdN_some hr).2
    have h3 := congrArg List.length h2
    rw [h1]
    unfold byN at h3
    rw [List.length_append, Pk.data_len, Pk.data_len] at h3
    omega
theorem celo_ok (hk : Kept w0 (Pair2 (TLo p b h c D L vl vh vp) X) w) : L.C.ok b h := by
  obtain ⟨F, ⟨_, _, ⟨_, _, ⟨_, _, _, h1, _⟩, _⟩, _⟩, _⟩ := hk
  exact h1.ok
set_option maxHeartbeats 1600000 in
theorem tissued_any (hE : Env w0) (hk : Kept w0 (Pair2 (TLo p b h c D L vl vh vp) X) w) (gX : Pk.Good X) :
    Calls Tryz.prog 66 #[.pointer (some ⟨p.bl, 0, none⟩)] w fun e w' => e = .returned (.int .i64 (issI L.C.now)) ∧ Box (Kept w0 (Pair2 (TLo p b h c D L vl vh vp) X) w') := by
  have hF := tnote_any hk gX
  have hsz := noT_size (celo_ok hk).now
  have hrs := rdT_size (noT L.C.now)
  have hRd := fun w1 (hk1 : Kept w0 (Pair2 (TLo p b h c D L vl vh vp) X) w1) => Nt.read_any (noT L.C.now) w0.heap.size w1 (hE.nlAt hk1.k) hk1.k.size (by omega)
  have hPr := fun w1 (hb : Below w0.heap.size w0 w1) => Nt.parse_any (rdT (noT L.C.now)) w0.heap.size w1 (hE.nlAt hb) hb.size (by omega)
  unfold issI
  obtain ⟨s, hs⟩ : ∃ s, noT L.C.now = s := ⟨_, rfl⟩
  rw [hs] at hF hRd hPr ⊢
  obtain ⟨T, hT⟩ : ∃ T, rdT s = T := ⟨_, rfl⟩
  have hRd2 : Box (∀ w1, Kept w0 (Pair2 (TLo p b h c D L vl vh vp) X) w1 → Calls Tryz.prog 29 #[.string s] w1 fun e w' => ∃ a n cc E, e = .returned (.tuple #[.agg #[.string T, .slice a n cc], .int .i64 E]) ∧ Below w1.heap.size w1 w') := ⟨fun w1 hk1 => (hRd w1 hk1).mono fun e w' ⟨v, he, hR⟩ => by
    obtain ⟨a, cc, rfl, _⟩ := hR.sigs.ex
    exact ⟨a, _, cc, rdE s, hT ▸ he, hR.bel⟩⟩
  rw [hT] at hPr ⊢
  replace hPr := Box.mk hPr
  replace hF := Box.mk hF
  clear hk hsz hrs hRd hs hT hE
  obtain ⟨bl, hbl⟩ : ∃ x, p.bl = x := ⟨_, rfl⟩
  rw [hbl] at hF ⊢
  have hgX := Box.mk gX
  clear hbl gX
  cases hp : pCk T.data.toList with
  | none =>
    have hv := prV_none hp
    simp only [hv] at hPr
    clear hp hv
    go_enter Tryz.func66, Tryz.ntmps66
    go_wp2_with fail
    refine hF.out.mono ?_
    clear hF
    rintro e w1 ⟨rfl, hk1⟩
    have hG := hRd2.out w1 hk1.out
    clear hRd2
    go_wp2_with fail
    refine hG.mono ?_
    clear hG
    rintro e w2 ⟨a, n, cc, E, rfl, hb2⟩
    have hk2 := Box.mk (tl_here hk1.out hgX.out hb2)
    have hk3 := Box.mk (tl_here hk2.out hgX.out (bel_alloc w2 (.cells #[.string T, .slice a n cc] 72)))
    have hG := hPr.out _ hk3.out.k
    clear hk1 hb2 hPr
    go_wp2_with fail
    refine hG.mono ?_
    clear hG
    rintro e w4 ⟨rfl, hb4⟩
    have hk4 := Box.mk (tl_here hk3.out hgX.out hb4)
    have hk5 := Box.mk (tl_here hk4.out hgX.out (bel_alloc w4 (.cells #[.string ⟨#[]⟩, .int .i64 0, .string ⟨#[]⟩] 67)))
    clear hb4
    go_wp2_with fail
    go_ret
    exact ⟨rfl, hk5⟩
  | some k =>
    have hv := prV_some hp
    simp only [hv] at hPr
    obtain ⟨ko, kn, kr⟩ := k
    clear hp hv
    go_enter Tryz.func66, Tryz.ntmps66
    go_wp2_with fail
    refine hF.out.mono ?_
    clear hF
    rintro e w1 ⟨rfl, hk1⟩
    have hG := hRd2.out w1 hk1.out
    clear hRd2
    go_wp2_with fail
    refine hG.mono ?_
    clear hG
    rintro e w2 ⟨a, n, cc, E, rfl, hb2⟩
    have hk2 := Box.mk (tl_here hk1.out hgX.out hb2)
    have hk3 := Box.mk (tl_here hk2.out hgX.out (bel_alloc w2 (.cells #[.string T, .slice a n cc] 72)))
    have hG := hPr.out _ hk3.out.k
    clear hk1 hb2 hPr
    go_wp2_with fail
    refine hG.mono ?_
    clear hG
    rintro e w4 ⟨rfl, hb4⟩
    have hk4 := Box.mk (tl_here hk3.out hgX.out hb4)
    have hk5 := Box.mk (tl_here hk4.out hgX.out (bel_alloc w4 (.cells #[.string ko, .int .i64 kn, .string kr] 67)))
    clear hb4
    go_wp2_with fail
    go_ret
    exact ⟨rfl, hk5⟩
end
end Go.Proofs.YthnbhaffphopoaaGreatDoor.Tg
