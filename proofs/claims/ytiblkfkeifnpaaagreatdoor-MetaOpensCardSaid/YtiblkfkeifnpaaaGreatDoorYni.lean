/- meta: MetaOpens walked. -/
import Derived.Test.YtiblkfkeifnpaaaGreatDoorYnh
import Derived.Test.YtiblkfkeifnpaaaGreatDoorYnf
import Derived.Test.YtiblkfkeifnpaaaGreatDoorYne
set_option linter.all false
namespace Go.Proofs.YtiblkfkeifnpaaaGreatDoor.Me
open Go Go.RowKit Go.Proofs.YtiblkfkeifnpaaaGreatDoor Go.Proofs.YtiblkfkeifnpaaaGreatDoor.Nt
theorem sets_three {w : World} {g : Nat} {a1 a2 : Option Addr} {c1 c2 : Nat} {R1 R2 : List ByteArray} (h : Pk.Blk w g [.slice a1 R1.length c1, .int .i64 1, .slice a2 R2.length c2, .int .i64 2, .slice none 0 0, .int .i64 0] 24)
    (p1 : PartsAt w (.slice a1 R1.length c1) R1) (p2 : PartsAt w (.slice a2 R2.length c2) R2) (n : Nat) (hn : n ≤ 3) : SetsAt w (.slice (some ⟨g, 0, none⟩) n 3) (([(R1, 1), (R2, 2), ([], 0)] : List SetM).take n) := by
  have hl : (([(R1, 1), (R2, 2), ([], 0)] : List SetM).take n).length = n := by rw [List.length_take]; simp; omega
  refine ⟨some ⟨g, 0, none⟩, 3, by rw [hl], fun h0 => ⟨g, 0, rfl, h.lt, fun i hi => ?_⟩⟩
  rw [hl] at hi
  have e : (([(R1, 1), (R2, 2), ([], 0)] : List SetM).take n).getD i default = ([(R1, 1), (R2, 2), ([], 0)] : List SetM).getD i default := by simp [List.getD, List.getElem?_take, hi]
  rw [e]
  rcases (show i = 0 ∨ i = 1 ∨ i = 2 by omega) with rfl | rfl | rfl
  · exact ⟨(a1, c1), h.cell 0, h.cell 1, p1⟩
  · exact ⟨(a2, c2), h.cell 2, h.cell 3, p2⟩
  · exact ⟨(none, 0), h.cell 4, h.cell 5, ⟨none, 0, rfl, fun h => absurd h (Nat.lt_irrefl 0)⟩⟩
theorem op_ok (l : List UInt8) (k : Int) (ss : List SetM) : DcOk (opM l k ss).1 := by
  have h0 : DcOk dc0 := ⟨Nat.zero_le _, Nat.zero_le _, Nat.zero_le _, Nat.zero_le _, Nat.zero_le _, Nat.zero_le _, Nat.zero_le _, Nat.zero_le _, Nat.zero_le _⟩
  unfold opM
  split
  · exact h0
  · split
    · exact h0
    · split
      · exact h0
      · split
        · exact dec_ok
        · exact h0
theorem uns_x : unsM [120] = (ByteArray.empty, [], 3) := by decide +kernel
theorem seal_tail (body : ByteArray) (sg : List SigM) (k : Int) (ss : List SetM) : opM ((sealV body sg).1 ++ ⟨#[120]⟩).data.toList k ss = (dc0, ByteArray.empty, 3) := by
  have h : unsM ((sealV body sg).1 ++ (⟨#[120]⟩ : ByteArray)).data.toList = (ByteArray.empty, [], 3) := by
    have e : ((sealV body sg).1 ++ (⟨#[120]⟩ : ByteArray)).data.toList = (sealV body sg).1.data.toList ++ [120] := by simp
    rw [e]
    unfold sealV
    by_cases hs : sealB body sg = true
    · rw [if_pos hs, Pk.mk_list]; exact uns_more hs (by simp)
    · rw [if_neg hs]; exact uns_x
  unfold opM
  rw [h]
  rfl
theorem parts_take {w : World} {a : Option Addr} {c : Nat} {ids : List ByteArray} (k : Nat) (h : PartsAt w (.slice a ids.length c) ids) (hk : k ≤ ids.length) : PartsAt w (.slice a k c) (ids.take k) := by
  obtain ⟨a2, c2, e, hh⟩ := h
  cases e
  have hl : (ids.take k).length = k := by rw [List.length_take]; omega
  refine ⟨_, _, by rw [hl], fun h0 => ?_⟩
  obtain ⟨blk, off, e, hlt, hc⟩ := hh (by omega)
  refine ⟨blk, off, e, hlt, fun i hi => ?_⟩
  rw [hc i (by omega)]
  simp [List.getD, List.getElem?_take, show i < k by omega]
set_option maxHeartbeats 3200000 in
set_option maxRecDepth 100000 in
theorem law_opens (d : Dc) (z : Sl) (kind : Int) (ba : Option Addr) (L cap : Nat) (bs : Nat → Nat) (B : Nat) (w : World) (hL : NL B w) (hB : B ≤ w.heap.size) (hK : KIs w) (hv : DcAt w z d) (ho : DcOk d) (hy : ByIn w ba L bs) (hLc : L ≤ cap) (hcm : cap ≤ maxLen) :
    Calls Tryz.prog 6 #[docV d z, .int .i64 kind, .slice ba L cap] w fun e w' => e = .returned (.bool true) ∧ Below w.heap.size w w' := by
  obtain ⟨W1, hW1, hB1, hS1⟩ := doc_new w d z 30
  obtain ⟨b, hb⟩ : ∃ b, w.heap.size = b := ⟨_, rfl⟩
  rw [hb] at hS1
  replace hS1 := Box.mk hS1
  have hLB := Box.mk fun (w' : World) (hb : Below w.heap.size w w') => (⟨hL.here hB hb, by have := hb.size; omega⟩ : NL B w' ∧ B ≤ w'.heap.size)
  have hKB := Box.mk fun (w' : World) (hb : Below w.heap.size w w') => hK.below hb hK.lt
  have hvB := Box.mk hv
  have hoB := Box.mk ho
  obtain ⟨hl1, hl2⟩ := hLB.out W1 hB1.out
  have hq := seals_any B W1 hl1 hl2
  obtain ⟨T, hT⟩ : ∃ x, (encV d).1 = x := ⟨_, rfl⟩
  obtain ⟨ee, hee⟩ : ∃ x, (encV d).2 = x := ⟨_, rfl⟩
  have hE : encR d = .tuple #[.string T, .int .i64 ee] := by unfold encR; rw [hT, hee]
  have hTz : T.size ≤ 5000 := by
    rw [← hT]; unfold encV
    by_cases h : chkD d = true
    · rw [if_pos h, Pk.mk_size]; exact layD_len h
    · rw [if_neg h]; exact Nat.zero_le _
  have hEB := Box.mk hE
  obtain ⟨m, hmin, hmL, hm8⟩ : ∃ m : Nat, min (L : Int) 8 = (m : Int) ∧ m ≤ L ∧ m ≤ 8 := ⟨min L 8, by omega, by omega, by omega⟩
  have hmc : m ≤ cap := by omega
  have hyB := Box.mk hy
  have hcapB := Box.mk hcm
  clear hL hB hK hv ho hl1 hl2 hee hT hE hy hcm
  show Calls _ _ #[.agg (docL _ z).toArray, .int .i64 kind, .slice ba L cap] w _
  go_enter Tryz.func6, Tryz.ntmps6
  go_wp2_with fail
  refine hq.mono ?_
  clear hq
  rintro r w2 ⟨rfl, hbe⟩
  have hB2 := Box.mk (mono_bel hB1.out hbe (Nat.le_refl _))
  have hS2 := doc_here hS1 hbe
  clear hbe hB1 hS1
  obtain ⟨hl1, hl2⟩ := hLB.out w2 hB2.out
  have hq := rencode_any d z B w2 hl1 hl2 (hvB.out.here hB2.out) hoB.out
  rw [hEB.out] at hq
  clear hl1 hl2 hEB
  go_wp2_with (refine wpList_loadG (by rfl) 30 (.tmp 3) rfl b 0 rfl (docL d z) _ (blk_range hS2.out) Tryz.underlying30 rfl (doc_size _ _) ?_)
  refine hq.mono ?_
  clear hq hvB hoB
  rintro r w3 ⟨rfl, hbe⟩
  have hB3 := Box.mk (mono_bel hB2.out hbe (Nat.le_refl _))
  have hA0 : Box (OR w (.slice none 0 0) [] (.slice none 0 0) [] w3) := ⟨⟨⟨TxR.nil _ _, hB3.out⟩, ⟨Pk.Row.nil _ _ _, (fun k hk => by cases hk), hB3.out⟩⟩⟩
  clear hbe hB2 hS2 hB3 hb
  go_wp2_with fail
  go_loopw [9, 10, 37] (fun v9 v q wr => ∃ (i : Nat) (ids : List ByteArray) (sg : List (ByteArray × ByteArray)), i ≤ 4 ∧ q = .int .i64 (i : Int) ∧ ids.length = i ∧ sg.length ≤ 8 * i ∧ Box (OR w v9 ids v sg wr)) (fun _ _ q _ => 4 - (intOf q).toNat)
  case atStart => exact ⟨0, [], [], by omega, rfl, rfl, by simp, hA0⟩
  case round =>
    clear hA0
    obtain ⟨i, ids, sg, hi, rfl, hids, hsl, hA⟩ := hrel
    obtain ⟨a9, c9, rfl⟩ := hA.out.a.ids.shape
    obtain ⟨a5, c5, rfl⟩ := hA.out.row.row.shape
    replace hids := Box.mk hids
    by_cases hlt : i < 4
    · have hN := r6new0 (sd i) wr (by show 1 ≤ _; decide)
      obtain ⟨S, hS⟩ : ∃ S, Utf8.encode (97 + (i : Int)) = S := ⟨_, rfl⟩
      have hSs : sd i = S := (rune_enc4 i hlt).symm.trans hS
      rw [hSs] at hN
      replace hS := Box.mk hS
      have hSz : Box (S.size ≤ 140737488351232) := ⟨by rw [← hSs]; show 1 ≤ _; decide⟩
      have hix : (i : Int) < 4 := by omega
      clear hSs
      go_wp2_with fail
      rw [hS.out]
      clear hS
      refine hN.mono ?_
      clear hN
      rintro e w2 ⟨rfl, hk2, hb2⟩
      have hA2 := Box.mk (hA.out.on hb2)
      have hF := r6ID_any wr.heap.size S 0 0 w2 hk2.1
      have hown := Box.mk (fun k (hk : (Value.slice a9 ids.length c9).ownBlock = some k) => (hA.out.a.ids.own k hk).2)
      obtain ⟨kb, hkb⟩ : ∃ b, wr.heap.size = b := ⟨_, rfl⟩
      rw [hkb] at hk2 hF hown
      replace hk2 := Box.mk hk2
      obtain ⟨y, hye⟩ : ∃ y, keyID S 0 = y := ⟨_, rfl⟩
      rw [hye] at hF
      replace hye := Box.mk hye
      clear hb2 hA
      go_wp2_with fail
      refine hF.mono ?_
      clear hF
      rintro e w4 ⟨rfl, hb4⟩
      have hb5 := mono_bel hb4 (bel_alloc w4 (.cells #[.string y] 9)) (Nat.le_refl _)
      have hA5 := Box.mk (hA2.out.on hb5)
      have hy5 := Box.mk (parts_new w4 [y] 9)
      replace hb5 := Box.mk hb5
      clear hb4 hA2
      go_wp2_with (at_builtin; refine wpList_pushT rfl (.tmp 48) (.tmp 51) rfl w.heap.size _ ids [y] rfl hA5.out.a.ids (by have := hA5.out.a.bel.size; exact this) (some ⟨w4.heap.size, 0, none⟩) 1 1 rfl rfl hy5.out (by have := hids.out; omega) ?_)
      intro v3 w6 hp
      have hA6 := Box.mk (hA5.out.id hp)
      have hk6 := Box.mk (hk2.out.2 _ w6 ((chg0 hb5.out).trans hp.chg fun _ _ h => h) (fun k hk hS2 => by have := hown.out k hS2; omega))
      obtain ⟨ids2, hids2⟩ : ∃ l, ids ++ [y] = l := ⟨_, rfl⟩
      have hidl : ids2.length = i + 1 := by rw [← hids2, List.length_append, hids.out]; rfl
      rw [hids2] at hA6
      have hB8 : sg.length ≤ 8 * i + 0 := by omega
      clear hp hA5 hy5 hb5 hk2 hown hids hids2 hsl
      go_wp2_with fail
      go_loopw [10, 59] (fun v q wr => ∃ (j : Nat) (sg : List (ByteArray × ByteArray)), j ≤ m ∧ q = .int .i64 (j : Int) ∧ sg.length ≤ 8 * i + j ∧ Box (OR w v3 ids2 v sg wr) ∧ Box (QKey wr kb S 0 0)) (fun _ q _ => m - (intOf q).toNat)
      case atStart => exact ⟨0, sg, by omega, rfl, hB8, hA6, hk6⟩
      case round =>
        clear hA6 hk6 hB8
        obtain ⟨j, sg, hj, rfl, hsl, hA, hk⟩ := hrel
        obtain ⟨a5, c5, rfl⟩ := hA.out.row.row.shape
        by_cases hjm : j < m
        · obtain ⟨blk, off, rfl, hbl, hc⟩ := hyB.out.out (by omega)
          obtain ⟨hx, k0⟩ := hc j (by omega)
          replace k0 := (hA.out.a.bel.cell (p := ⟨blk, off + j, none⟩) hbl).trans k0
          obtain ⟨x, hxe⟩ : ∃ x, bs j = x := ⟨_, rfl⟩
          rw [hxe] at k0 hx
          have hm8 : (x : Int).tmod 5 = ((x % 5 : Nat) : Int) := by rw [Int.tmod_eq_emod_of_nonneg (by omega)]; simp
          have h88 : x % 5 < 5 := Nat.mod_lt _ (by decide)
          obtain ⟨n8, hn8⟩ : ∃ n, x % 5 = n := ⟨_, rfl⟩
          rw [hn8] at hm8 h88
          have hjj : (j : Int) < (m : Int) := by omega
          clear hbl hc hxe hn8
          by_cases h17 : n8 = i
          · rw [h17] at hm8
            clear h17 h88
            have hC0 : Box (OC w v3 ids2 kb S (.slice a5 sg.length c5) sg wr) := ⟨⟨⟨hA.out.a, hk.out⟩, hA.out.row⟩⟩
            obtain ⟨zz, hz⟩ : ∃ z, keyS S 0 0 T = z := ⟨_, rfl⟩
            replace hz := Box.mk hz
            clear hA hk
            have hq := r6ID_any kb S 0 0 wr hC0.out.1.key
            rw [hye.out] at hq
            go_wp2_with fail
            refine hq.mono ?_
            clear hq
            rintro e wa ⟨rfl, hba⟩
            have hC1 := Box.mk (hC0.out.on hba)
            have hq := r6at_any kb S T 0 0 0 wa hC1.out.1.key (by decide) hSz.out (by omega)
            rw [hz.out] at hq
            clear hba hC0
            go_wp2_with fail
            refine hq.mono ?_
            clear hq
            rintro e wb ⟨rfl, hbb⟩
            have hC2 := Box.mk (hC1.out.on hbb)
            have hD : Box (OD w v3 ids2 kb S (.slice a5 sg.length c5) sg wb.heap.size (y, zz) (wb.alloc (.cells #[.string y, .string zz] 59))) := ⟨⟨hC2.out.on (bel_alloc _ _), Pk.Blk.new wb _ _⟩⟩
            clear hbb hC1 hC2
            go_wp2_with (at_builtin; refine wpList_pushG rfl (.tmp 68) (.tmp 75) rfl (.slice a5 sg.length c5) sg.length (sgC sg) rfl hD.out.1.2.row (some ⟨wb.heap.size, 0, none⟩) 1 1 [(y, zz)] rfl rfl (sig_blk hD.out.2) (by omega) ?_)
            intro v5 w7 hp5
            have hC7 := OC.push hD.out.1 hp5
            clear hp5 hD
            obtain ⟨a8, c8, hv5⟩ := hC7.2.row.shape
            obtain ⟨n7, hn7⟩ : ∃ n, (sg ++ [(y, zz)]).length = n := ⟨_, rfl⟩
            rw [hn7] at hv5
            subst hv5
            have hA7 : Box (OR w v3 ids2 (.slice a8 n7 c8) (sg ++ [(y, zz)]) w7) := ⟨⟨hC7.1.a, hC7.2⟩⟩
            have hk7 := Box.mk hC7.1.key
            clear hC7
            have hs7 : (sg ++ [(y, zz)]).length ≤ 8 * i + (j + 1) := by rw [List.length_append]; show sg.length + 1 ≤ _; omega
            clear hn7
            obtain ⟨sg7, hsg7⟩ : ∃ l, sg ++ [(y, zz)] = l := ⟨_, rfl⟩
            rw [hsg7] at hA7 hs7
            clear hsg7
            go_wp2_with fail
            exact ⟨⟨j + 1, sg7, by omega, by go_num, hs7, hA7, hk7⟩, by simp [intOf]; omega⟩
          · have hb1 : ((n8 : Int) == (i : Int)) = false := by rw [beq_eq_false_iff_ne]; omega
            clear h17
            go_wp2_with fail
            exact ⟨⟨j + 1, sg, by omega, by go_num, by omega, hA, hk⟩, by simp [intOf]; omega⟩
        · obtain rfl : j = m := by omega
          go_wp2_with fail
          exact ⟨⟨i + 1, ids2, sg, by omega, by go_num, hidl, by omega, hA⟩, by simp [intOf]; omega⟩
    · obtain rfl : i = 4 := by omega
      have h4 := hids.out
      have h2c : 2 ≤ c9 := by
        obtain ⟨_, ⟨e, h0⟩ | ⟨g, cap, cur, e, b1, hg, k1, k2, k3, k4⟩⟩ := hA.out.a.ids
        · omega
        · cases e; omega
      have hF := rising_any (.slice a9 2 c9) (ids.take 2) wr (parts_take 2 hA.out.a.ids.parts (by omega)) (by rw [List.length_take]; omega)
      obtain ⟨n4, hn4⟩ : ∃ n, ids.length = n := ⟨_, rfl⟩
      rw [hn4] at h4
      subst h4
      rw [hn4]
      clear hlt hmin hmL hm8 hmc hcapB hyB
      obtain ⟨R1, hR1⟩ : ∃ R, ris (ids.take 2) = R := ⟨_, rfl⟩
      have hl1 : R1.length ≤ 2 := by rw [← hR1]; exact Nat.le_trans (ris_length _) (by rw [List.length_take]; omega)
      rw [hR1] at hF
      clear hR1
      go_wp2_with fail
      refine hF.mono ?_
      clear hF h2c
      rintro e wa ⟨v1, rfl, hT1, hba⟩
      obtain ⟨a1, c1, rfl⟩ := hT1.shape
      have hAa := Box.mk (hA.out.on hba)
      have hF := rising_any (.slice a9 ids.length c9) ids wa hAa.out.a.ids.parts (by omega)
      obtain ⟨R2, hR2⟩ : ∃ R, ris ids = R := ⟨_, rfl⟩
      have hl2 : R2.length ≤ 4 := by rw [← hR2]; exact Nat.le_trans (ris_length _) (by omega)
      rw [hn4, hR2] at hF
      replace hT1 := Box.mk hT1
      clear hR2 hba hA
      go_wp2_with fail
      refine hF.mono ?_
      clear hF
      rintro e wb ⟨v2, rfl, hT2, hbb⟩
      obtain ⟨a2, c2, rfl⟩ := hT2.shape
      have hAb := Box.mk (hAa.out.on hbb)
      have p1 := Box.mk (hT1.out.parts.here hbb)
      have p2 := Box.mk hT2.parts
      clear hT1 hT2 hbb hAa
      obtain ⟨wc, hwc⟩ : ∃ x, wb.alloc (.cells #[.slice a1 R1.length c1, .int .i64 1, .slice a2 R2.length c2, .int .i64 2, .slice none 0 0, .int .i64 0] 24) = x := ⟨_, rfl⟩
      have hbc : Below wb.heap.size wb wc := by rw [← hwc]; exact bel_alloc _ _
      have hG : Pk.Blk wc wb.heap.size [.slice a1 R1.length c1, .int .i64 1, .slice a2 R2.length c2, .int .i64 2, .slice none 0 0, .int .i64 0] 24 := by rw [← hwc]; exact Pk.Blk.new wb _ _
      have hAc := Box.mk (hAb.out.on hbc)
      have hSt := Box.mk fun (n : Nat) (hn : n ≤ 3) (w' : World) (h : Below wc.heap.size wc w') => sets_three (blk_here hG h) ((p1.out.here hbc).here h) ((p2.out.here hbc).here h) n hn
      obtain ⟨bs1, hbs1⟩ : ∃ x, wb.heap.size = x := ⟨_, rfl⟩
      rw [hbs1] at hSt
      have hss : Box (∀ n, ∀ x ∈ ([(R1, 1), (R2, 2), ([], 0)] : List SetM).take n, x.1.length ≤ maxLen) := ⟨fun n x hx => by
        have hx := List.mem_of_mem_take hx
        have h : maxLen = 9223372036854775807 := rfl
        rcases List.mem_cons.1 hx with rfl | hx
        · show R1.length ≤ _; omega
        · rcases List.mem_cons.1 hx with rfl | hx
          · show R2.length ≤ _; omega
          · rcases List.mem_cons.1 hx with rfl | hx
            · exact Nat.zero_le _
            · cases hx⟩
      have hsn : Box (∀ n, n ≤ 3 → (([(R1, 1), (R2, 2), ([], 0)] : List SetM).take n).length = n) := ⟨fun n hn => by rw [List.length_take]; simp; omega⟩
      obtain ⟨ss, hse⟩ : ∃ l, ([(R1, 1), (R2, 2), ([], 0)] : List SetM) = l := ⟨_, rfl⟩
      rw [hse] at hSt hss hsn
      have hq := rseal_any T a5 sg.length c5 sg wc hAc.out.row.sigs rfl (by omega)
      have hsz := seal_size T sg
      have htl := Box.mk (seal_tail T sg)
      obtain ⟨s, hs⟩ : ∃ x, (sealV T sg).1 = x := ⟨_, rfl⟩
      obtain ⟨se, hse2⟩ : ∃ x, (sealV T sg).2 = x := ⟨_, rfl⟩
      have hR : sealR T sg = .tuple #[.string s, .int .i64 se] := by unfold sealR; rw [hs, hse2]
      rw [hR] at hq
      rw [hs] at hsz htl
      clear hbc hG hAb p1 p2 hse hs hse2 hR hl1 hl2
      go_wp2_with fail
      refine hq.mono ?_
      clear hq hbs1 hwc
      rintro e wd ⟨rfl, hbd⟩
      obtain ⟨we, hwe⟩ : ∃ x, wd.alloc (.cells #[.int .i64 0, .int .i64 1, .int .i64 2, .int .i64 3] 3) = x := ⟨_, rfl⟩
      have hbe : Below wd.heap.size wd we := by rw [← hwe]; exact bel_alloc _ _
      have hG : Pk.Blk we wd.heap.size [.int .i64 0, .int .i64 1, .int .i64 2, .int .i64 3] 3 := by rw [← hwe]; exact Pk.Blk.new wd _ _
      have hBe := Box.mk (mono_bel (hAc.out.on hbd).a.bel hbe (Nat.le_refl _))
      have hCe := Box.mk (mono_bel hbd hbe (Nat.le_refl _))
      obtain ⟨bx, hbx⟩ : ∃ x, wd.heap.size = x := ⟨_, rfl⟩
      rw [hbx] at hG
      have hns : Box (∀ i : Nat, i < 4 → ∀ w', Below we.heap.size we w' → w'.cell? ⟨bx, i, none⟩ = some (.int .i64 (i : Int))) := ⟨fun i hi w' h => by
        have h1 := blk_here hG h
        rcases (show i = 0 ∨ i = 1 ∨ i = 2 ∨ i = 3 by omega) with rfl | rfl | rfl | rfl
        · exact h1.cell 0
        · exact h1.cell 1
        · exact h1.cell 2
        · exact h1.cell 3⟩
      clear hbd hbe hG hAc
      go_wp2_with fail
      have hR0 : Box (Below we.heap.size we we) := ⟨Below.refl _ _⟩
      clear hwe hbx
      go_loopw [96] (fun q wr => ∃ i : Nat, i ≤ 4 ∧ q = .int .i64 (i : Int) ∧ Box (Below we.heap.size we wr)) (fun q _ => 4 - (intOf q).toNat)
      case atStart => exact ⟨0, by omega, rfl, hR0⟩
      case round =>
        clear hR0
        obtain ⟨i, hi, rfl, hR⟩ := hrel
        have hBr := Box.mk (mono_bel hBe.out hR.out (Nat.le_refl _))
        obtain ⟨hl1, hl2⟩ := hLB.out wr hBr.out
        by_cases hlt : i < 4
        · have k0 := hns.out i hlt wr hR.out
          have hi3 : i ≤ 3 := by omega
          have hii : (i : Int) < 4 := by omega
          have hi3' : (i : Int) ≤ 3 := by omega
          have hq := open_any s kind (some ⟨bs1, 0, none⟩) i 3 (ss.take i) B wr hl1 hl2 (hSt.out i hi3 wr (mono_bel hCe.out hR.out (Nat.le_refl _))) (hsn.out i hi3) (by omega) (hss.out i) (fun _ w' h => hKB.out w' (mono_bel hBr.out h (Nat.le_refl _)))
          have q2 := Box.mk fun (w' : World) (h : Below wr.heap.size wr w') => ropen_any s kind (some ⟨bs1, 0, none⟩) i 3 (ss.take i) B w' (hLB.out w' (mono_bel hBr.out h (Nat.le_refl _))).1 (hLB.out w' (mono_bel hBr.out h (Nat.le_refl _))).2 (hSt.out i hi3 w' (mono_bel hCe.out (mono_bel hR.out h (Nat.le_refl _)) (Nat.le_refl _))) (hsn.out i hi3) (by omega) (hss.out i)
          have hok := op_ok s.data.toList kind (ss.take i)
          unfold OpS at hq q2
          obtain ⟨o, hO⟩ : ∃ o, opM s.data.toList kind (ss.take i) = o := ⟨_, rfl⟩
          rw [hO] at hq q2 hok
          obtain ⟨D, bb, oe⟩ := o
          dsimp only at hq q2 hok
          replace hok := Box.mk hok
          clear hO hl1 hl2 hlt
          go_wp2_with fail
          refine hq.mono ?_
          clear hq
          rintro r wf ⟨⟨z1, rfl, hr1⟩, hbf⟩
          have hF := Box.mk hbf
          replace hr1 := Box.mk hr1
          clear hbf
          obtain ⟨b21, hb21, hZ21, hT21⟩ := @store_var wf D z1
          go_wp2_with (refine wpList_store_doc rfl (.tmp 21) (.tmp 107) rfl b21 D z1 (by first | rfl | (rw [← hb21]; rfl)) rfl hZ21.out rfl ?_; intro w8 hw8; have hM := Box.mk (hT21.out w8 hw8); clear hw8 hT21 hZ21)
          have hF8 := Box.mk (mono_bel hF.out hM.out.1 (Nat.le_refl _))
          have hr8 := Box.mk (hr1.out.below hM.out.1)
          have h21 := Box.mk hM.out.2
          have hq := q2.out w8 hF8.out
          clear hM hF hr1 hb21
          refine hq.mono ?_
          clear hq q2
          rintro r w9 ⟨⟨z2, rfl, hr2⟩, hb9⟩
          have hF9 := Box.mk (mono_bel hF8.out hb9 (Nat.le_refl _))
          have hr9 := Box.mk (hr8.out.below hb9)
          have h21b := Box.mk (blk_here h21.out hb9)
          replace hr2 := Box.mk hr2
          clear hb9 h21 hr8 hF8
          obtain ⟨b24, hb24, hZ24, hT24⟩ := @store_var w9 D z2
          have hqs := Box.mk fun (w' : World) (h : Below w9.heap.size w9 w') => same_doc D z1 z2 w' (hr9.out.below h).at_ (hr2.out.below h).at_ hok.out
          go_wp2_with (first
            | (refine wpList_store_doc rfl (.tmp 24) (.tmp 117) rfl b24 D z2 (by first | rfl | (rw [← hb24]; rfl)) rfl hZ24.out rfl ?_; intro w10 hw10; have hM := Box.mk (hT24.out w10 hw10); clear hw10 hT24 hZ24)
            | (refine wpList_loadG (by rfl) 30 (.tmp 21) rfl b21 0 rfl (docL D z1) _ (blk_range (blk_here h21b.out hM.out.1)) Tryz.underlying30 rfl (doc_size _ _) ?_)
            | (refine wpList_loadG (by rfl) 30 (.tmp 24) rfl b24 0 rfl (docL D z2) _ (blk_range hM.out.2) Tryz.underlying30 rfl (doc_size _ _) ?_))
          have hq := hqs.out w10 hM.out.1
          refine hq.mono ?_
          clear hq hqs
          rintro r w11 ⟨rfl, hbe⟩
          have hRW := Box.mk (mono_bel hR.out (mono_bel (mono_bel hF9.out hM.out.1 (Nat.le_refl _)) hbe (Nat.le_refl _)) (Nat.le_refl _))
          clear hbe hM hF9 hr9 hr2
          go_wp2_with fail
          exact ⟨⟨i + 1, by omega, by go_num, hRW⟩, by simp [intOf]; omega⟩
        · obtain rfl : i = 4 := by omega
          have hq := open_any (s ++ ⟨#[120]⟩) kind none 0 0 [] B wr hl1 hl2 ⟨none, 0, rfl, fun h => absurd h (Nat.lt_irrefl 0)⟩ rfl (by omega) (fun x hx => by cases hx) (fun h => absurd rfl h)
          unfold OpS at hq
          rw [htl.out kind []] at hq
          dsimp only at hq
          have hsx : s.size + 1 ≤ 9223372036854775807 := by omega
          clear hl1 hl2 hlt hi hss hsn hSt hns htl
          go_wp2_with fail
          refine hq.mono ?_
          clear hq
          rintro r wf ⟨⟨z1, rfl, hr1⟩, hbf⟩
          have hF := Box.mk (mono_bel hBr.out hbf (Nat.le_refl _))
          replace hr1 := Box.mk hr1
          have ok0 : DcOk dc0 := ⟨Nat.zero_le _, Nat.zero_le _, Nat.zero_le _, Nat.zero_le _, Nat.zero_le _, Nat.zero_le _, Nat.zero_le _, Nat.zero_le _, Nat.zero_le _⟩
          have hqs := Box.mk fun (w' : World) (h : Below wf.heap.size wf w') => same_doc dc0 z1 zz0 w' (hr1.out.below h).at_ (DcR.zero B w').at_ ok0
          clear hbf hBr ok0
          obtain ⟨b27, hb27, hZ27, hT27⟩ := @store_var wf dc0 z1
          go_wp2_with (first
            | (refine wpList_store_doc rfl (.tmp 27) (.tmp 140) rfl b27 dc0 z1 (by first | rfl | (rw [← hb27]; rfl)) rfl hZ27.out rfl ?_; intro w8 hw8; have hM := Box.mk (hT27.out w8 hw8); clear hw8 hT27 hZ27)
            | (refine wpList_buildD rfl 30 [] rfl [] rfl (docL dc0 zz0) built_zero ?_)
            | (refine wpList_loadG (by rfl) 30 (.tmp 27) rfl b27 0 rfl (docL dc0 z1) _ (blk_range hM.out.2) Tryz.underlying30 rfl (doc_size _ _) ?_))
          have hq := hqs.out w8 hM.out.1
          refine hq.mono ?_
          clear hq hqs
          rintro r w9 ⟨rfl, hbe⟩
          have hE := Box.mk (mono_bel (mono_bel hF.out hM.out.1 (Nat.le_refl _)) hbe (Nat.le_refl _))
          clear hbe hM hF hr1
          go_wp2_with fail
          go_ret
          exact ⟨rfl, hE.out⟩
end Go.Proofs.YtiblkfkeifnpaaaGreatDoor.Me
