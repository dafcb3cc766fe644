/- The document's cell: Commit. | The document's Commit beside other things. -/
import Derived.Deep.CutBlock
import Derived.Test.YtoaipjpbioaneaaGreatMXa
namespace Go.Proofs.YtoaipjpbioaneaaGreat
open Go.RowKit Go.Maps

theorem btx_cut (l : Bs) (i m : Nat) (hm : m = min (64 * i + 64) l.length) : (btx l).extract (64 * i) m = btx ((l.drop (64 * i)).take 64) := by
  rw [mk_cut]
  congr 1
  rw [hm, List.drop_take]
  rcases Nat.lt_or_ge (64 * i + 64) l.length with h | h
  · rw [Nat.min_eq_left (by omega), show 64 * i + 64 - 64 * i = 64 by omega]
  · rw [Nat.min_eq_right h, List.take_of_length_le (by rw [List.length_drop]; exact Nat.le_refl _), List.take_of_length_le (by rw [List.length_drop]; omega)]
/-- What the loop leaves. -/
structure XEnd (D : Dev) (t : Bs) (a : Nat) (e : Int) (D' : Dev) : Prop where
  len : D'.safe.length = D.safe.length
  taken : D'.taken ≤ D.taken + 140000
  fall : D'.fall ≤ D.fall
  ws : D'.ws.length ≤ D.ws.length + 70000
  done : ∀ hd, commitM D a hd (cut t.length t) = if e = 0 then (wrE D' a hd true, wrD D' a hd true) else (e, D')
theorem XEnd.of {D D' : Dev} {t : Bs} {a j : Nat} {e : Int} (h : XLoop D t a j e D') (hx : t.length ≤ 64 * j ∨ e ≠ 0) (hj : j ≤ 66000) : XEnd D t a e D' :=
  ⟨h.len, by have := h.taken; omega, h.fall, by have := h.ws; omega, h.done hx⟩
theorem QNext.later {w w1 w2 : World} {bw : Nat} {F : Nat → Prop} {D : Dev} (h : QNext w bw F D w1) (hb : Below w1.heap.size w1 w2) : QNext w bw F D w2 := by
  have s := hb.size
  refine ⟨(h.at_.below hb).wide (fun k hk => ?_) (fun k hk => ?_), h.chg.trans (Chg.of_below hb) fun i hi hk => ?_⟩
  · rcases hk with hk | hk
    · exact .inl hk
    · exact .inr ⟨hk.1, Nat.lt_of_lt_of_le hk.2 s⟩
  · rcases hk with hk | hk
    · exact Nat.lt_of_lt_of_le (h.at_.lt k (.inl hk)) s
    · exact hk.2
  · have := h.chg.size; omega
theorem QNext.earlier {w w1 w2 : World} {bw : Nat} {F : Nat → Prop} {D : Dev} (hb : Below w.heap.size w w1) (h : QNext w1 bw F D w2) : QNext w bw F D w2 := by
  have s := hb.size
  have s2 := h.chg.size
  refine ⟨h.at_.wide (fun k hk => ?_) (fun k hk => ?_), (Chg.of_below hb).mono (fun i hi hk => absurd hk (by omega)) |>.trans h.chg fun i hi hk => hk⟩
  · rcases hk with hk | hk
    · exact .inl hk
    · exact .inr ⟨Nat.le_trans s hk.1, hk.2⟩
  · rcases hk with hk | hk
    · exact h.at_.lt k (.inl hk)
    · exact hk.2
def XCellCells (bw base half : Nat) (vn vw : Value) (num last : Nat) (off : Bool) : List Value := [.pointer (some ⟨bw, 0, none⟩), .int .i64 (base : Int), .int .i64 (half : Int), vn, vw, .int .i64 (num : Int), .int .i64 (last : Int), .bool off]
def XPost (bq bw base half : Nat) (F : Nat → Prop) (vn vw : Value) (M : CellM) (w : World) (e : Int) (D' : Dev) (w' : World) : Prop :=
  ∃ m, w.heap.size ≤ m ∧ m ≤ w'.heap.size ∧ QAt w' bw (fun k => F k ∨ (w.heap.size ≤ k ∧ k < m)) D' ∧ Chg (fun k => F k ∨ k = bq) w w' ∧
    if e = 0 then Blk w' bq (XCellCells bw base half vn vn (M.num + 1) (1 - M.last) false) 36 else Blk w' bq (XCellCells bw base half vn vw M.num M.last true) 36
theorem XPost.of {bq bw base half : Nat} {F : Nat → Prop} {vn vw : Value} {M : CellM} {w w8 W : World} {e : Int} {D : Dev} (hN : QNext w bw F D w8) (hF : ∀ k, (F k ∨ (w.heap.size ≤ k ∧ k < w8.heap.size)) → ¬ k = bq) (hc : Chg (fun k => k = bq) w8 W)
    (hb : if e = 0 then Blk W bq (XCellCells bw base half vn vn (M.num + 1) (1 - M.last) false) 36 else Blk W bq (XCellCells bw base half vn vw M.num M.last true) 36) : XPost bq bw base half F vn vw M w e D W := by
  have s1 := hN.chg.size
  have s2 := hc.size
  refine ⟨W.heap.size, by omega, Nat.le_refl _, (hN.at_.chg hc hF).wide (fun k hk => ?_) (fun k hk => ?_), (hN.chg.mono (fun i _ h => .inl h)).trans hc (fun i _ h => .inr h), hb⟩
  · rcases hk with hk | hk
    · exact .inl hk
    · exact .inr ⟨hk.1, Nat.lt_of_lt_of_le hk.2 s2⟩
  · rcases hk with hk | hk
    · exact Nat.lt_of_lt_of_le (hN.at_.lt k (.inl hk)) s2
    · exact hk.2
set_option maxHeartbeats 6400000 in
set_option maxRecDepth 100000 in
theorem xcommit_go (bq bw base half : Nat) (F : Nat → Prop) (D : Dev) (vn vw : Value) (M : CellM) (w : World) (hQ : QAt w bw F D) (hb : Blk w bq (XCellCells bw base half vn vw M.num M.last false) 36) (hn : Row w 92 2 vn M.now.length (pcs M.now)) (hF : ¬ F bq) (hok : M.ok base half)
    (hfit : (bytesC M.now).length ≤ 64 * (half - 1)) (hin : base + 2 * half ≤ D.safe.length) (hk : D.taken ≤ 100000) (hf : D.fall ≤ 9223372036854775807) (hws : D.ws.length ≤ 100000) (hnum : M.num < 1000000) :
    Calls Tryz.prog 30 #[.pointer (some ⟨bq, 0, none⟩)] w fun e w' =>
      e = .returned (.int .i64 (commitM D (toC base half M.last) (hdr (M.num + 1) (bytesC M.now).length) (pieces M.now)).1) ∧ Box (XPost bq bw base half F vn vw M w (commitM D (toC base half M.last) (hdr (M.num + 1) (bytesC M.now).length) (pieces M.now)).1 (commitM D (toC base half M.last) (hdr (M.num + 1) (bytesC M.now).length) (pieces M.now)).2 w') := by
  have hB := Box.mk (xBytes_any vn M.now w hn hok.now)
  have hlast := hok.last
  have hhalf := hok.half
  have hbase := hok.base
  obtain ⟨hb2, hb42⟩ := bytesC_le hok.now
  obtain ⟨tt, htt⟩ : ∃ tt, bytesC M.now = tt := ⟨_, rfl⟩
  obtain ⟨toN, hto⟩ : ∃ toN, 1 - M.last = toN := ⟨_, rfl⟩
  obtain ⟨kh, hkh⟩ : ∃ kh, toN * half = kh := ⟨_, rfl⟩
  obtain ⟨a, ha⟩ : ∃ a, base + kh = a := ⟨_, rfl⟩
  have htoC : toC base half M.last = a := by unfold toC; rw [hto, hkh, ha]
  have hkb : kh ≤ half := by
    rcases (show toN = 0 ∨ toN = 1 by omega) with h | h <;> rw [h] at hkh <;> omega
  have hp : (toN : Int) * (half : Int) = (kh : Int) := by rw [← hkh]; push_cast; rfl
  have hto2 : (1 : Int) - (M.last : Int) = (toN : Int) := by omega
  have hai : (base : Int) + (kh : Int) = (a : Int) := by omega
  have hpc : pieces M.now = cut tt.length tt := by unfold pieces; rw [htt]
  rw [htoC, hpc]
  rw [htt] at hB hb2 hb42 hfit ⊢
  obtain ⟨num, hnu⟩ : ∃ num, M.num = num := ⟨_, rfl⟩
  obtain ⟨lst, hls⟩ : ∃ lst, M.last = lst := ⟨_, rfl⟩
  unfold XCellCells at hb
  rw [hnu, hls] at hb
  rw [hls] at hto2
  rw [hnu] at hnum ⊢
  obtain ⟨⟨r1, r2⟩, hr⟩ : ∃ rr, commitM D a (hdr (num + 1) tt.length) (cut tt.length tt) = rr := ⟨_, rfl⟩
  rw [hr]
  dsimp only
  replace hr := Box.mk hr
  obtain ⟨va, vc, rfl⟩ := hn.shape
  have c7 : w.cell? ⟨bq, 7, none⟩ = some (.bool false) := hb.cell 7
  have c3 : w.cell? ⟨bq, 3, none⟩ = some (.slice va M.now.length vc) := hb.cell 3
  have c2 : w.cell? ⟨bq, 2, none⟩ = some (.int .i64 (half : Int)) := hb.cell 2
  replace hQ := Box.mk hQ
  replace hb := Box.mk hb
  replace hF := Box.mk hF
  replace hn := Box.mk hn
  obtain ⟨L, hL⟩ : ∃ L, tt.length = L := ⟨_, rfl⟩
  have hLs : (btx tt).size = L := by rw [mk_size]; exact hL
  obtain ⟨S, hS⟩ : ∃ S, btx tt = S := ⟨_, rfl⟩
  rw [hS] at hB hLs
  rw [hL] at hb2 hb42 hfit
  have hfi : (L : Int) ≤ 64 * ((half : Int) - 1) := by omega
  replace hS := Box.mk hS
  replace hL := Box.mk hL
  have htoB := Box.mk hto
  clear hkh htoC hpc htt hok ha hto
  go_enter Tryz.func30, Tryz.ntmps30
  go_wp2_with fail
  refine hB.out.mono ?_
  rintro e w1 ⟨rfl, hB1⟩
  have hQ1 := Box.mk (hQ.out.below hB1.out)
  have hb1 : Blk w1 bq _ 36 := (hB1.out.block bq hb.out.lt).trans hb.out
  have d2 : w1.cell? ⟨bq, 2, none⟩ = some (.int .i64 (half : Int)) := hb1.cell 2
  have d6 : w1.cell? ⟨bq, 6, none⟩ = some (.int .i64 (lst : Int)) := hb1.cell 6
  have d1 : w1.cell? ⟨bq, 1, none⟩ = some (.int .i64 (base : Int)) := hb1.cell 1
  clear hB c7 c3 c2 hQ
  go_wp2_with fail
  refine wp_region_quiet_lit (by kernel_rfl) (by kernel_rfl) ?_
  repeat (go_big_quiet_step (first | exact fun _ => rfl | rfl))
  refine wpQuiet_nil ?_
  rintro w2 ⟨r, rfl⟩
  have hQ2 := Box.mk (hQ1.out.below (below_drewN _ w1 r))
  have hk2 : Box (Below w.heap.size w (w1.drewN r)) := ⟨hB1.out.trans (below_drewN _ w1 r)⟩
  have hb2' : Box (Blk (w1.drewN r) bq [.pointer (some ⟨bw, 0, none⟩), .int .i64 (base : Int), .int .i64 (half : Int), .slice va M.now.length vc, vw, .int .i64 (num : Int), .int .i64 (lst : Int), .bool false] 36) := ⟨hb1⟩
  generalize w1.drewN r = w2 at hQ2 hk2 hb2' ⊢
  have hal : a + half ≤ D.safe.length := by omega
  have hW := Box.mk (xwrite_any bq bw F D a ⟨#[]⟩ true _ w2 hQ2.out hb2'.out hF.out (by omega) (by omega) hf (by omega))
  have hX0 := Box.mk (XLoop.start (D := D) (t := tt) (a := a) (by rw [hL.out]; omega) (by omega))
  rw [show (⟨#[]⟩ : ByteArray).data.toList = [] from rfl] at hW
  generalize wrE D a [] true = e1 at hW hX0
  generalize wrD D a [] true = D1 at hW hX0
  clear d1 d2 d6 hb1 hQ1 hB1 hQ2
  go_wp2_with fail
  refine hW.out.mono ?_
  rintro e w3 ⟨rfl, hN3⟩
  clear hW
  go_upto_block 0 with fail
  go_cut [6] from 47 (fun s6 wc => ∃ (e : Int) (D' : Dev), s6 = .int .i64 e ∧ (e = 0 ∨ e = 7) ∧ Box (QNext w2 bw F D' wc) ∧ Box (XEnd D tt a e D'))
  case first =>
    go_wp2_with fail
    go_loopw [7, 6] (fun s7 s6 wr => ∃ (j : Nat) (e : Int) (D' : Dev), 64 * j ≤ L + 63 ∧ s7 = .int .i64 ((64 * j : Nat) : Int) ∧ s6 = .int .i64 e ∧ Box (QNext w2 bw F D' wr) ∧ Box (XLoop D tt a j e D')) (fun s7 _ _ => L + 64 - (intOf s7).toNat)
    case atStart => exact ⟨0, e1, D1, by omega, rfl, rfl, hN3, hX0⟩
    case round =>
      clear hN3 hX0
      obtain ⟨j, e, D', hj, rfl, rfl, hN, hX⟩ := hrel
      have hbr : Blk wr bq _ 36 := hN.out.chg.blk hb2'.out hF.out
      by_cases hgo : 64 * j < L ∧ e = 0
      · obtain ⟨hlt, rfl⟩ := hgo
        obtain ⟨at_, hat⟩ : ∃ n, 64 * j = n := ⟨_, rfl⟩
        obtain ⟨m, hm⟩ : ∃ m, min (at_ + 64) L = m := ⟨_, rfl⟩
        obtain ⟨lb, hlb⟩ : ∃ lb, ((m : Int) == (L : Int)) = lb := ⟨_, rfl⟩
        have hmn : Box ((if (L : Int) < (at_ : Int) + 64 then (L : Int) else (at_ : Int) + 64) = (m : Int)) := ⟨by split <;> omega⟩
        have hq2 : (at_ : Int) / 64 = (j : Int) := by omega
        have hex : S.extract at_ m = btx ((tt.drop (64 * j)).take 64) := by rw [← hS.out, ← hat]; exact btx_cut tt j m (by rw [← hm, ← hat, hL.out])
        have hlast : lb = decide (tt.length ≤ 64 * (j + 1)) := by
          rw [← hlb, hL.out]
          by_cases h : L ≤ 64 * (j + 1)
          · rw [decide_eq_true h]; simp; omega
          · rw [decide_eq_false h]; simp; omega
        have hX2 := Box.mk (hX.out.step (by rw [hL.out]; exact hlt) lb hlast (by omega))
        have hWr := Box.mk (xwrite_any bq bw _ D' (a + 1 + j) (btx ((tt.drop (64 * j)).take 64)) lb _ wr hN.out.at_ hbr (fun h => by have := hb2'.out.lt; rcases h with h | h; exact hF.out h; omega) (by rw [hX.out.len]; omega) (by have := hX.out.taken; omega) (Nat.le_trans hX.out.fall hf) (by have := hX.out.ws; omega))
        rw [mk_list] at hWr
        obtain ⟨nn, hnn⟩ : ∃ nn, a + 1 + j = nn := ⟨_, rfl⟩
        rw [hnn] at hWr hX2
        have hai2 : (a : Int) + 1 + (j : Int) = (nn : Int) := by omega
        generalize wrE D' nn ((tt.drop (64 * j)).take 64) lb = e2 at hWr hX2
        generalize wrD D' nn ((tt.drop (64 * j)).take 64) lb = D2 at hWr hX2
        have hjn : Box (64 * j = at_) := ⟨hat⟩
        have hab : a ≤ 8192 := by omega
        have hm2 : (m : Int) ≤ (L : Int) := by omega
        have hm3 : (at_ : Int) ≤ (m : Int) := by omega
        rw [hat]
        have hatb0 : at_ < 4200000 := by omega
        have hlt2 : (at_ : Int) < (L : Int) := by omega
        rw [hat] at hWr
        have hjb : j ≤ 65625 := by omega
        clear hm hlast hX hbr hin hk hf hws hhalf hbase hkb hp hai hnum hto2 hfit hb2 hfi hal hj hls hnu hlt
        replace hWr := Box.mk hWr.out
        go_wp2_with (refine wpList_min2 rfl (.tmp 58) (.tmp 60) 3 rfl ((at_ : Int) + 64) (L : Int) (m : Int) rfl rfl hmn.out ?_)
        refine hWr.out.mono ?_
        rintro e w4 ⟨rfl, hN4⟩
        have hN5 := Box.mk (hN.out.trans hN4.out)
        clear hWr hN hN4 hex hlb hnn hai2 hq2 hat hm2 hm3
        have hatb : at_ ≤ 64 * L := by have := hjn.out; omega
        clear hab
        go_wp2_with fail
        exact ⟨⟨j + 1, e2, D2, by have := hjn.out; omega, by rw [show 64 * (j + 1) = at_ + 64 by have := hjn.out; omega]; go_num, rfl, hN5, hX2⟩, by have := hjn.out; simp [intOf]; omega⟩
      · have hXe := Box.mk (XEnd.of hX.out (by rw [hL.out]; rcases Nat.lt_or_ge (64 * j) L with h | h; exact .inr fun h0 => hgo ⟨h, h0⟩; exact .inl h) (by omega))
        have he07 := hX.out.e07
        rcases Nat.lt_or_ge (64 * j) L with h | h
        · have hne : (e == 0) = false := by simp; exact fun h0 => hgo ⟨h, h0⟩
          obtain ⟨at_, hat⟩ : ∃ n, 64 * j = n := ⟨_, rfl⟩
          have hlt2 : (at_ : Int) < (L : Int) := by omega
          rw [hat]
          clear hX hgo hj
          go_wp2_with fail
          go_meet
          exact ⟨e, D', rfl, he07, hN, hXe⟩
        · obtain ⟨at_, hat⟩ : ∃ n, 64 * j = n := ⟨_, rfl⟩
          have hlt2 : ¬ (at_ : Int) < (L : Int) := by omega
          rw [hat]
          clear hX hgo hj
          go_wp2_with fail
          go_meet
          exact ⟨e, D', rfl, he07, hN, hXe⟩
  case rest =>
    clear hN3 hX0
    obtain ⟨e, D', rfl, he07, hN, hX⟩ := hcut
    have hbr : Blk wc bq _ 36 := hN.out.chg.blk hb2'.out hF.out
    have d5 : wc.cell? ⟨bq, 5, none⟩ = some (.int .i64 (num : Int)) := hbr.cell 5
    have h0 := Box.mk (XH.new wc)
    obtain ⟨w4, hw4⟩ : ∃ w4, wc.alloc (.cells #[.slice none 0 0, .bool false] 108) = w4 := ⟨_, rfl⟩
    have d5' : w4.cell? ⟨bq, 5, none⟩ = some (.int .i64 (num : Int)) := by rw [← hw4, ((Below.refl wc.heap.size wc).alloc (Nat.le_refl _) _).cell (p := ⟨bq, 5, none⟩) hbr.lt]; exact d5
    obtain ⟨b, hbe⟩ : ∃ b, wc.heap.size = b := ⟨_, rfl⟩
    rw [hw4, hbe] at h0
    have h1 := h0.out.num (num + 1) 8 (by omega) (by omega) (by omega) (by simp)
    rw [show ((num + 1 : Nat) : Int) = (num : Int) + 1 by omega, List.nil_append] at h1
    replace h1 := Box.mk h1
    have hlt := hbr.lt
    replace hbr := Box.mk hbr
    have hall : a < D.safe.length := by omega
    clear h0 hfi hp hto2 hai hhalf hbase hkb hfit hin hal hlast
    go_wp2_with fail
    refine h1.out.mono ?_
    rintro e0 w5 ⟨rfl, h2⟩
    have d6 : w5.cell? ⟨bq, 5, none⟩ = some (.int .i64 (num : Int)) := by rw [h2.out.k.cell (p := ⟨bq, 5, none⟩) hlt]; exact d5
    have h3 := Box.mk (h2.out.num L 4 (by omega) (by omega) (by omega) (by rw [beN_length]; omega))
    clear h1 h2 d5' hw4
    go_wp2_with fail
    refine h3.out.mono ?_
    rintro e0 w6 ⟨rfl, h4⟩
    have d7 : w6.cell? ⟨bq, 5, none⟩ = some (.int .i64 (num : Int)) := by rw [h4.out.k.cell (p := ⟨bq, 5, none⟩) hlt]; exact d5
    have h5 := h4.out.num (num + 1) 8 (by omega) (by omega) (by omega) (by rw [List.length_append, beN_length, beN_length]; omega)
    rw [show ((num + 1 : Nat) : Int) = (num : Int) + 1 by omega, show beN (num + 1) 8 ++ beN L 4 ++ beN (num + 1) 8 = hdr (num + 1) L by unfold hdr; rw [List.append_assoc]] at h5
    replace h5 := Box.mk h5
    clear h3 h4 d6
    go_wp2_with fail
    refine h5.out.mono ?_
    rintro e0 w7 ⟨rfl, h6⟩
    clear h5 d7
    obtain ⟨hd, hhd⟩ : ∃ hd, hdr (num + 1) L = hd := ⟨_, rfl⟩
    have hdl : hd.length = 20 := by rw [← hhd]; exact hdr_length _ _
    rw [hhd] at h6
    have hC := hX.out.done hd
    rw [show commitM D a hd (cut tt.length tt) = (r1, r2) by rw [← hr.out, hL.out, hhd]] at hC
    have hb7 : Blk w7 bq [.pointer (some ⟨bw, 0, none⟩), .int .i64 (base : Int), .int .i64 (half : Int), .slice va M.now.length vc, vw, .int .i64 (num : Int), .int .i64 (lst : Int), .bool false] 36 := (h6.out.k.block bq hlt).trans hbr.out
    have hN7 : Box (QNext w2 bw F D' w7) := ⟨hN.out.later h6.out.k⟩
    have hw7 : wc.heap.size ≤ w7.heap.size := h6.out.k.size
    clear hN hbr d5
    rcases he07 with rfl | rfl
    · rw [if_pos rfl] at hC
      obtain ⟨v, hv, _⟩ := h6.out.out
      have k0 : w7.cell? ⟨b, 0, none⟩ = some v := hv.blk.cell 0
      have hcv : (convert 84 9 v).run Tryz.prog w7 = .ok (.string (btx hd)) w7 := own_text hv.own
      have hWr := xwrite_any bq bw _ D' a (btx hd) true _ w7 hN7.out.at_ hb7 (fun h => by have := hb2'.out.lt; rcases h with h | h; exact hF.out h; omega) (by rw [hX.out.len]; omega) (by have := hX.out.taken; omega) (Nat.le_trans hX.out.fall hf) (by have := hX.out.ws; omega)
      rw [mk_list] at hWr
      replace hWr := Box.mk hWr
      have he2 := wrE_07 (D := D') (n := a) (t := hd) (last := true) (by rw [hX.out.len]; omega) (by omega)
      have hr1 : r1 = wrE D' a hd true := congrArg Prod.fst hC
      have hr2 : r2 = wrD D' a hd true := congrArg Prod.snd hC
      rw [← hr1, ← hr2] at hWr
      rw [← hr1] at he2
      replace hb7 := Box.mk hb7
      clear hv h6 hC hr1 hr2
      go_wp2_with fail
      refine hWr.out.mono ?_
      rintro e0 w8 ⟨rfl, hN8⟩
      have hb8 : Blk w8 bq _ 36 := hN8.out.chg.blk hb7.out (fun h => by have := hb2'.out.lt; rcases h with h | h; exact hF.out h; omega)
      have hN9 := Box.mk (QNext.earlier hk2.out (hN7.out.trans hN8.out))
      have hF8 : ∀ k, (F k ∨ (w.heap.size ≤ k ∧ k < w8.heap.size)) → ¬ k = bq := fun k hk e => by
        have := hb.out.lt
        subst e
        rcases hk with h | h
        · exact hF.out h
        · omega
      replace hF8 := Box.mk hF8
      clear hWr hN8 hN7 hb7 hcv k0
      rcases he2 with rfl | rfl
      · have k3 : w8.cell? ⟨bq, 3, none⟩ = some (.slice va M.now.length vc) := hb8.cell 3
        have k4 : w8.cell? ⟨bq, 4, none⟩ = some vw := hb8.cell 4
        have k5 : w8.cell? ⟨bq, 5, none⟩ = some (.int .i64 (num : Int)) := hb8.cell 5
        have k6 : w8.cell? ⟨bq, 6, none⟩ = some (.int .i64 (lst : Int)) := hb8.cell 6
        have f4 := hb8.free 4
        have f5 := hb8.free 5
        have f6 := hb8.free 6
        have hW9 := Box.mk (((hb8.setCell 6 (.int .i64 (toN : Int))).setCell 5 (.int .i64 ((num : Int) + 1))).setCell 4 (.slice va M.now.length vc))
        have hC9 := Box.mk (chg_three w8 bq 6 5 4 (.int .i64 (toN : Int)) (.int .i64 ((num : Int) + 1)) (.slice va M.now.length vc))
        clear hb8
        go_wp2_with fail
        go_ret
        refine ⟨rfl, ⟨XPost.of hN9.out hF8.out hC9.out ?_⟩⟩
        rw [if_pos rfl]
        unfold XCellCells
        rw [hnu, htoB.out, show ((num + 1 : Nat) : Int) = (num : Int) + 1 by omega]
        exact hW9.out
      · have k7 : w8.cell? ⟨bq, 7, none⟩ = some (.bool false) := hb8.cell 7
        have f7 := hb8.free 7
        have hW9 := Box.mk (hb8.setCell 7 (.bool true))
        have hC9 := Box.mk (chg1 w8 bq 7 (.bool true))
        clear hb8
        go_wp2_with fail
        go_ret
        refine ⟨rfl, ⟨XPost.of hN9.out hF8.out hC9.out ?_⟩⟩
        rw [if_neg (by decide)]
        unfold XCellCells
        rw [hnu, hls]
        exact hW9.out
    · have hW7 : Box (Blk w7 bq [.pointer (some ⟨bw, 0, none⟩), .int .i64 (base : Int), .int .i64 (half : Int), .slice va M.now.length vc, vw, .int .i64 (num : Int), .int .i64 (lst : Int), .bool false] 36) := ⟨hb7⟩
      rw [if_neg (by decide)] at hC
      obtain rfl : r1 = 7 := congrArg Prod.fst hC
      obtain rfl : r2 = D' := congrArg Prod.snd hC
      have k7 : w7.cell? ⟨bq, 7, none⟩ = some (.bool false) := hb7.cell 7
      have f7 := hb7.free 7
      have hN9 := Box.mk (QNext.earlier hk2.out hN7.out)
      have hW9 := Box.mk (hb7.setCell 7 (.bool true))
      have hC9 := Box.mk (chg1 w7 bq 7 (.bool true))
      clear hb7 h6
      have hF8 : Box (∀ k, (F k ∨ (w.heap.size ≤ k ∧ k < w7.heap.size)) → ¬ k = bq) := ⟨fun k hk e => by
        have := hb.out.lt
        subst e
        rcases hk with h | h
        · exact hF.out h
        · omega⟩
      go_wp2_with fail
      go_ret
      refine ⟨rfl, ⟨XPost.of hN9.out hF8.out hC9.out ?_⟩⟩
      rw [if_neg (by decide)]
      unfold XCellCells
      rw [hnu, hls]
      exact hW9.out
end Go.Proofs.YtoaipjpbioaneaaGreat

namespace Go.Proofs.YtoaipjpbioaneaaGreat
open Go.RowKit Go.Maps

set_option maxHeartbeats 800000 in
theorem xcommit_off (bq : Nat) (a b c d e f g : Value) (w : World) (hb : Blk w bq [a, b, c, d, e, f, g, .bool true] 36) :
    Calls Tryz.prog 30 #[.pointer (some ⟨bq, 0, none⟩)] w fun e w' => e = .returned (.int .i64 7) ∧ w = w' := by
  have c7 : w.cell? ⟨bq, 7, none⟩ = some (.bool true) := hb.cell 7
  clear hb
  go_enter Tryz.func30, Tryz.ntmps30
  go_wp2_with fail
  go_returns
  exact ⟨rfl, rfl⟩
set_option maxHeartbeats 800000 in
set_option maxRecDepth 100000 in
theorem xcommit_long (bq bw base half : Nat) (vn vw : Value) (M : CellM) (w : World) (hb : Blk w bq (XCellCells bw base half vn vw M.num M.last false) 36) (hn : Row w 92 2 vn M.now.length (pcs M.now)) (hok : M.ok base half) (hl : 64 * (half - 1) < (bytesC M.now).length) :
    Calls Tryz.prog 30 #[.pointer (some ⟨bq, 0, none⟩)] w fun e w' => e = .returned (.int .i64 4) ∧ Box (Below w.heap.size w w') := by
  have hB := Box.mk (xBytes_any vn M.now w hn hok.now)
  have hhalf := hok.half
  obtain ⟨hb2, hb42⟩ := bytesC_le hok.now
  obtain ⟨S, hS⟩ : ∃ S, btx (bytesC M.now) = S := ⟨_, rfl⟩
  have hLs : S.size = (bytesC M.now).length := by rw [← hS, mk_size]
  obtain ⟨L, hL⟩ : ∃ L, (bytesC M.now).length = L := ⟨_, rfl⟩
  rw [hS] at hB
  rw [hL] at hl hLs hb42
  obtain ⟨va, vc, rfl⟩ := hn.shape
  unfold XCellCells at hb
  have c7 : w.cell? ⟨bq, 7, none⟩ = some (.bool false) := hb.cell 7
  have c3 : w.cell? ⟨bq, 3, none⟩ = some (.slice va M.now.length vc) := hb.cell 3
  have hbl := hb.lt
  have c2 : w.cell? ⟨bq, 2, none⟩ = some (.int .i64 (half : Int)) := hb.cell 2
  have hfi : 64 * ((half : Int) - 1) < (L : Int) := by omega
  replace hS := Box.mk hS
  replace hL := Box.mk hL
  clear hb hn hok hb2
  go_enter Tryz.func30, Tryz.ntmps30
  go_wp2_with fail
  refine hB.out.mono ?_
  rintro e w1 ⟨rfl, hB1⟩
  have d2 : w1.cell? ⟨bq, 2, none⟩ = some (.int .i64 (half : Int)) := (hB1.out.cell (p := ⟨bq, 2, none⟩) hbl).trans c2
  clear hB c7 c3 c2
  go_wp2_with fail
  go_returns
  exact ⟨rfl, hB1⟩
theorem xcommit_does (bw bq base half : Nat) (D : Dev) (M : CellM) (hin : base + 2 * half ≤ D.safe.length) (hk : D.taken ≤ 100000) (hf : D.fall ≤ 9223372036854775807) (hws : D.ws.length ≤ 100000) (hnum : M.num < 1000000) :
    Does 30 #[.pointer (some ⟨bq, 0, none⟩)] (Pair2 (QO bw D) (XelO bw bq base half M)) (RetE (.int .i64 (commitE base half D M)) (Pair2 (QO bw (commitD base half D M)) (XelO bw bq base half (commitC base half D M)))) := by
  rintro w G ⟨F, F2, hQ, h, hdis, e1, e2, hl⟩
  have gD := QO.good bw D
  have gC := XelO.good bw bq base half M
  obtain ⟨vn, vw, hb, hn, hw, h1, h2⟩ := h.out
  have hCok := commitC_ok (D := D) h.ok hnum
  have hsame : ∀ w', Below w.heap.size w w' → Pair2 (QO bw D) (XelO bw bq base half M) w' (Ext G w w') ∧ Chg G w w' := fun w' hB => Ext.of_below (gD.pair2 gC) ⟨F, F2, hQ, h, hdis, e1, e2, hl⟩ hB
  cases hoff : M.off with
  | true =>
    have hE : commitE base half D M = 7 := by unfold commitE; rw [hoff, if_pos rfl]
    have hDd : commitD base half D M = D := by unfold commitD; rw [hoff, if_pos rfl]
    have hCc : commitC base half D M = M := by unfold commitC; rw [hoff, if_pos rfl]
    rw [hE, hDd, hCc]
    rw [hoff] at hb
    exact (xcommit_off bq _ _ _ _ _ _ _ w hb).mono fun e w' ⟨he, hB⟩ => ⟨⟨he, (hsame w' (hB ▸ Below.refl _ _)).1⟩, (hsame w' (hB ▸ Below.refl _ _)).2⟩
  | false =>
    rw [hoff] at hb
    by_cases hlong : 64 * (half - 1) < (bytesC M.now).length
    · have hE : commitE base half D M = 4 := by unfold commitE; rw [hoff, if_neg (by decide), if_pos hlong]
      have hDd : commitD base half D M = D := by unfold commitD; rw [hoff, if_neg (by decide), if_pos hlong]
      have hCc : commitC base half D M = M := by unfold commitC; rw [hoff, if_neg (by decide), if_pos hlong]
      rw [hE, hDd, hCc]
      exact (xcommit_long bq bw base half vn vw M w hb hn h.ok hlong).mono fun e w' ⟨he, hB⟩ => ⟨⟨he, (hsame w' hB.out).1⟩, (hsame w' hB.out).2⟩
    · have hE : commitE base half D M = (commitM D (toC base half M.last) (hdr (M.num + 1) (bytesC M.now).length) (pieces M.now)).1 := by unfold commitE; rw [hoff, if_neg (by decide), if_neg hlong]
      have hDd : commitD base half D M = (commitM D (toC base half M.last) (hdr (M.num + 1) (bytesC M.now).length) (pieces M.now)).2 := by unfold commitD; rw [hoff, if_neg (by decide), if_neg hlong]
      have hCc : commitC base half D M = if (commitM D (toC base half M.last) (hdr (M.num + 1) (bytesC M.now).length) (pieces M.now)).1 = 0 then { M with was := M.now, num := M.num + 1, last := 1 - M.last } else { M with off := true } := by
        unfold commitC; rw [hoff, if_neg (by decide), if_neg hlong]
      refine (xcommit_go bq bw base half F D vn vw M w hQ hb hn (fun hh => hdis _ hh h.fc) h.ok (by omega) hin hk hf hws hnum).mono fun e w' ⟨he, hP⟩ => ?_
      obtain ⟨m, m1, m2, p1, p2, p3⟩ := hP.out
      rw [← hE, ← hDd] at *
      have hs := p2.size
      have hcel : XelO bw bq base half (commitC base half D M) w' (fun k => F2 k ∨ (m ≤ k ∧ k < w'.heap.size)) := by
        have hnr : ∀ {v l}, Row w 92 2 v l.length (pcs l) → (∀ k, v.ownBlock = some k → F2 k) → Row w' 92 2 v l.length (pcs l) := fun hr hv => hr.chg p2 fun k hk hh => by
          rcases hh with hh | hh
          · exact hdis k hh (hv k hk)
          · exact hr.apart hb (by decide) (by rw [hk, hh])
        have hlt : ∀ k, (F2 k ∨ (m ≤ k ∧ k < w'.heap.size)) → k < w'.heap.size := fun k hk => by
          rcases hk with hk | hk
          · exact Nat.lt_of_lt_of_le (h.lt k hk) hs
          · exact hk.2
        rw [hCc] at hCok ⊢
        split at p3
        · next hz =>
          rw [if_pos hz] at hCok ⊢
          exact ⟨hCok, ⟨vn, vn, by rw [hoff]; exact p3, hnr hn h1, hnr hn h1, fun k hk => .inl (h1 k hk), fun k hk => .inl (h1 k hk)⟩, .inl h.fc, hlt⟩
        · next hz =>
          rw [if_neg hz] at hCok ⊢
          exact ⟨hCok, ⟨vn, vw, p3, hnr hn h1, hnr hw h2, fun k hk => .inl (h1 k hk), fun k hk => .inl (h2 k hk)⟩, .inl h.fc, hlt⟩
      have hFl := hQ.lt
      have hFl2 := h.lt
      refine ⟨⟨he, ⟨_, _, p1, hcel, fun k hk hk2 => ?_, fun k hk => ?_, fun k hk => ?_, fun k hk => ?_⟩⟩, p2.mono fun i _ hi => hi.elim (e1 i) fun hi => hi ▸ e2 _ h.fc⟩
      · rcases hk with hk | hk
        · rcases hk2 with hk2 | hk2
          · exact hdis k hk hk2
          · have := hFl k hk; omega
        · rcases hk2 with hk2 | hk2
          · have := hFl2 k hk2; omega
          · omega
      · exact hk.imp (e1 k) fun hk => ⟨hk.1, by omega⟩
      · exact hk.imp (e2 k) fun hk => ⟨by omega, hk.2⟩
      · rcases hk with hk | hk
        · exact Nat.lt_of_lt_of_le (hl k hk) p2.size
        · exact hk.2
end Go.Proofs.YtoaipjpbioaneaaGreat
