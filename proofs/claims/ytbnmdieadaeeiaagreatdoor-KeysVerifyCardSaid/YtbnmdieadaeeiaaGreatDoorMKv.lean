/- Walks of the document's Number, id and Verify of layer 6. | Walk of the document's Verify of layer 6. | KeysVerify: the walk of the law. -/
import Derived.Test.YtbnmdieadaeeiaaGreatDoorKyF
import Derived.Test.YtbnmdieadaeeiaaGreatDoorOtU
import Derived.Test.YtbnmdieadaeeiaaGreatDoorKyG
namespace Go.Proofs.YtbnmdieadaeeiaaGreatDoor
open Go Go.RowKit

theorem getN (q : ByteArray) (i : Nat) (hi : i < q.size) : (((q[i]'hi).toNat : Nat) : Int) = (((q.data.toList.getD i 0).toNat : Nat) : Int) := by
  simp [List.getD, hi, ByteArray.getElem_eq_getElem_data]
set_option maxHeartbeats 1600000 in
set_option maxRecDepth 100000 in
theorem r6number_any (q : ByteArray) (w : World) :
    Calls Tryz.prog 24 #[.string q] w fun e w' => e = .returned (.tuple #[.int .i64 ((numE q).1 : Int), .int .i64 (numE q).2]) ∧ Below w.heap.size w w' := by
  have hB : Box (Below w.heap.size w w) := ⟨Below.refl _ _⟩
  have hBd : Box (Below w.heap.size w w.drew) := ⟨Drawn.below ⟨1, rfl⟩⟩
  have hiff := sgOk_iff q
  by_cases c1 : q.size < 291
  · have hq : sgOk q = false := by
      cases h : sgOk q with
      | false => rfl
      | true => obtain ⟨h1, h2, h3⟩ := hiff.1 h; omega
    rw [numE, hq, if_neg (by simp)]
    have i1 : (q.size : Int) < 291 := by omega
    clear hiff hq c1
    go_enter Tryz.func24, Tryz.ntmps24
    go_wp2_with fail
    go_returns
    exact ⟨rfl, hB.out⟩
  have i1 : ¬ (q.size : Int) < 291 := by omega
  have x0 : 0 < q.size := by omega
  have x1 : 1 < q.size := by omega
  have x2 : 2 < q.size := by omega
  have g0 : (((q[0]'x0).toNat : Nat) : Int) = ((sgH q : Nat) : Int) := getN q 0 x0
  have hHl := sgH_lt q
  by_cases c2 : 4 < sgH q
  · have hq : sgOk q = false := by
      cases h : sgOk q with
      | false => rfl
      | true => obtain ⟨h1, h2, h3⟩ := hiff.1 h; omega
    rw [numE, hq, if_neg (by simp)]
    have i2 : 4 < (sgH q : Int) := by omega
    clear hiff hq c1
    go_enter Tryz.func24, Tryz.ntmps24
    go_wp2_with fail
    go_returns
    exact ⟨rfl, hB.out⟩
  have i2 : ¬ 4 < (sgH q : Int) := by omega
  by_cases c3 : ¬ q.size = 291 + 32 * sgH q
  · have hq : sgOk q = false := by
      cases h : sgOk q with
      | false => rfl
      | true => obtain ⟨h1, h2, h3⟩ := hiff.1 h; omega
    rw [numE, hq, if_neg (by simp)]
    have i3 : ¬ ((q.size : Int) = 291 + 32 * (sgH q : Int)) := by omega
    have i4 : ((q.size : Int) != 291 + 32 * (sgH q : Int)) = true := by simp; omega
    clear hiff hq c1
    go_enter Tryz.func24, Tryz.ntmps24
    go_wp2_with fail
    go_returns
    exact ⟨rfl, hB.out⟩
  have i3 : (q.size : Int) = 291 + 32 * (sgH q : Int) := by omega
  have i4 : ((q.size : Int) != 291 + 32 * (sgH q : Int)) = false := by simp; omega
  have g1 := getN q 1 x1
  have g2 := getN q 2 x2
  have hNl := sgN_lt q
  have hN : (((q.data.toList.getD 1 0).toNat : Nat) : Int) * 256 + (((q.data.toList.getD 2 0).toNat : Nat) : Int) = (sgN q : Int) := by unfold sgN; omega
  have b1 := (q.data.toList.getD 1 0).toNat_lt
  have b2 := (q.data.toList.getD 2 0).toNat_lt
  generalize (q.data.toList.getD 1 0).toNat = u1 at g1 hN b1
  generalize (q.data.toList.getD 2 0).toNat = u2 at g2 hN b2
  obtain ⟨H, hH⟩ : ∃ H, sgH q = H := ⟨_, rfl⟩
  obtain ⟨N, hNe⟩ : ∃ N, sgN q = N := ⟨_, rfl⟩
  have hP := pow2_lt H (by omega)
  obtain ⟨P, hPe⟩ : ∃ P, 2 ^ H = P := ⟨_, rfl⟩
  have hp : (2 : Int) ^ H = (P : Int) := by rw [← hPe]; simp
  rw [hPe] at hP
  rw [hH] at g0 i2 i3 i4
  rw [hNe] at hN hNl
  have hE : numE q = if N < P then (N, 0) else (0, 3) := by
    unfold numE
    by_cases h : N < P
    · rw [if_pos h, hiff.2 ⟨by omega, by omega, by rw [hNe, hH, hPe]; exact h⟩, if_pos rfl, hNe]
    · rw [if_neg h, if_neg (fun h1 => by
        obtain ⟨h2, h3, h4⟩ := hiff.1 h1
        rw [hNe, hH, hPe] at h4
        exact h h4)]
  rw [hE]
  have w1 : IntKind.i64.wrap ((u1 : Int) * 256) = (u1 : Int) * 256 := by rw [IntKind.wrap_i64]; omega
  have w2 : IntKind.i64.wrap ((u1 : Int) * 256 + (u2 : Int)) = (N : Int) := by rw [IntKind.wrap_i64]; omega
  have w3 : IntKind.i64.wrap (P : Int) = (P : Int) := by rw [IntKind.wrap_i64]; omega
  have hnot : ∀ (x : Bool) (w : World), (Op.unary .not (.bool x)).run Tryz.prog w = .ok (.bool (!x)) w := fun _ _ => rfl
  clear hiff hE c1 c3 hH hNe hPe i3 hN
  go_enter Tryz.func24, Tryz.ntmps24
  go_wp2_with fail
  refine region_go (C := fun _ => True) rfl ?_
  refine go_calms [0, 1, 2, 3, 4, 5, 6, 7, 8] 0 rfl (by kernel_rfl) (by kernel_rfl) (by kernel_rfl) trivial ?_
  simp [nth]
  try simp only [Act.put]
  repeat (go_big_quiet_step (first | exact fun _ => rfl | rfl))
  refine wpQuiet_nil ?_
  refine go_done (by kernel_rfl) ?_
  go_simp
  by_cases hNP : N < P
  · have hge : ¬ (P : Int) ≤ (N : Int) := by omega
    go_wp2_with fail
    go_returns
    exact ⟨by simp, hBd.out⟩
  · have hge : (P : Int) ≤ (N : Int) := by omega
    go_wp2_with fail
    go_returns
    exact ⟨by simp, hBd.out⟩
set_option maxHeartbeats 1600000 in
set_option maxRecDepth 100000 in
theorem r6id_any (h : Nat) (t : ByteArray) (w : World) (hh : h ≤ 255) (ht : t.size = 32) :
    Calls Tryz.prog 35 #[.int .i64 (h : Int), .string t] w fun e w' => e = .returned (.string (idV h t)) ∧ Below w.heap.size w w' := by
  have h1 : (by1 h).size = 1 := rfl
  have hsz := tag2_len 38 (by1 h) t (by omega) (by omega)
  have hN : ((UInt8.ofNat h).toNat : Int) = (h : Int) := by rw [UInt8.toNat_ofNat']; omega
  have hcv := one_text w (UInt8.ofNat h)
  have hF := rtag_parts 38 (.slice (some ⟨w.heap.size + 1, 0, none⟩) 2 2) [by1 h, t] ((w.alloc (.cells #[Value.int .u8 ((UInt8.ofNat h).toNat : Int)] 5)).alloc (.cells #[.string (by1 h), .string t] 9))
    (by have := parts_new (w.alloc (.cells #[Value.int .u8 ((UInt8.ofNat h).toNat : Int)] 5)) [by1 h, t] 9; rwa [show (w.alloc (.cells #[Value.int .u8 ((UInt8.ofNat h).toNat : Int)] 5)).heap.size = w.heap.size + 1 by simp] at this)
    (by omega) (by simp)
  rw [show hashOf (tagL 38 [by1 h, t]) = idV h t from rfl] at hF
  have hB : Box (Below w.heap.size w ((w.alloc (.cells #[Value.int .u8 ((UInt8.ofNat h).toNat : Int)] 5)).alloc (.cells #[.string (by1 h), .string t] 9))) := ⟨((Below.refl _ _).alloc (Nat.le_refl _) _).alloc (by simp) _⟩
  obtain ⟨y, hy⟩ : ∃ y, idV h t = y := ⟨_, rfl⟩
  rw [hy] at hF ⊢
  rw [show one (UInt8.ofNat h) = by1 h from rfl] at hcv
  obtain ⟨x, hx⟩ : ∃ x, by1 h = x := ⟨_, rfl⟩
  rw [hx] at hF hcv hB
  rw [hN] at hF hcv hB
  clear hsz hy hx h1 hN
  go_enter Tryz.func35, Tryz.ntmps35
  go_wp2_with fail
  refine hF.mono ?_
  rintro e w3 ⟨rfl, hb3⟩
  clear hF
  have hB3 : Box (Below w.heap.size w w3) := ⟨hB.out.trans (hb3.mono (by simp; omega))⟩
  clear hb3
  go_wp2_with fail
  go_ret
  exact ⟨rfl, hB3.out⟩
end Go.Proofs.YtbnmdieadaeeiaaGreatDoor

namespace Go.Proofs.YtbnmdieadaeeiaaGreatDoor
open Go Go.RowKit

set_option maxHeartbeats 1600000 in
set_option maxRecDepth 100000 in
theorem r6verify_no (i t q : ByteArray) (w : World) (hq : sgOk q = false) :
    Calls Tryz.prog 16 #[.string i, .string t, .string q] w fun e w' => e = .returned (.int .i64 3) ∧ Below w.heap.size w w' := by
  have hF := r6number_any q w
  rw [numE, hq, if_neg (by simp)] at hF
  clear hq
  go_enter Tryz.func16, Tryz.ntmps16
  go_wp2_with fail
  refine hF.mono ?_
  clear hF
  rintro e w1 ⟨rfl, hb1⟩
  replace hb1 := Box.mk hb1
  go_wp2_with fail
  go_returns
  exact ⟨rfl, hb1.out⟩
set_option maxHeartbeats 1600000 in
set_option maxRecDepth 100000 in
theorem r6verify_ok (i t q : ByteArray) (w : World) (hq : sgOk q = true) (ht : t.size ≤ 140737488351232) :
    Calls Tryz.prog 16 #[.string i, .string t, .string q] w fun e w' => e = .returned (.int .i64 (if idV (sgH q) (upV (recT (sgN q) t (sgO q)) (sgN q) (sgB q) (sgH q)) = i then 0 else 9)) ∧ Below w.heap.size w w' := by
  have hF := r6number_any q w
  rw [numE, if_pos hq] at hF
  obtain ⟨q1, q2, q3⟩ := (sgOk_iff q).1 hq
  have hp := pow2_lt (sgH q) q1
  have hR := fun w1 => rrecover_ok t (sgO q) (sgN q) w1 (by omega) (sgO_size q hq) ht
  have hO : q.extract 3 291 = sgO q := rfl
  have x0 : 0 < q.size := by omega
  have x1 : 291 ≤ q.size := by omega
  have x2 : (291 : Int) ≤ (q.size : Int) := by omega
  have g0 : (((q[0]'x0).toNat : Nat) : Int) = ((sgH q : Nat) : Int) := getN q 0 x0
  have hcut : ∀ j, j < sgH q → (sgB q).extract (32 * j) (32 * j + 32) = q.extract (291 + 32 * j) (291 + 32 * j + 32) := fun j hj => by
    rw [sgB, ext_ext _ _ _ _ _ (by omega), Nat.add_assoc]
  have hus : ∀ j, (upV (recT (sgN q) t (sgO q)) (sgN q) (sgB q) j).size = 32 := fun j => upV_size _ _ _ (tagS_size _ _) j
  have hu0 : upV (recT (sgN q) t (sgO q)) (sgN q) (sgB q) 0 = recT (sgN q) t (sgO q) := rfl
  have hup : ∀ j, j < sgH q → upV (recT (sgN q) t (sgO q)) (sgN q) (sgB q) (j + 1) = if (sgN q / 2 ^ j) % 2 = 0 then nodeV (upV (recT (sgN q) t (sgO q)) (sgN q) (sgB q) j) (q.extract (291 + 32 * j) (291 + 32 * j + 32)) else nodeV (q.extract (291 + 32 * j) (291 + 32 * j + 32)) (upV (recT (sgN q) t (sgO q)) (sgN q) (sgB q) j) := fun j hj => by
    rw [upV, hcut j hj]
  obtain ⟨U, hU⟩ : ∃ U, upV (recT (sgN q) t (sgO q)) (sgN q) (sgB q) = U := ⟨_, rfl⟩
  have hI := fun w1 => r6id_any (sgH q) (U (sgH q)) w1 (by omega) (by rw [← hU]; exact hus _)
  rw [hU] at hup hus hu0 ⊢
  rw [← hu0] at hR
  rw [hO.symm] at hR
  generalize hHe : sgH q = H at *
  generalize hNe : sgN q = N at *
  have q2' : (q.size : Int) = 291 + 32 * (H : Int) := by omega
  replace hR := Box.mk hR
  replace hI := Box.mk hI
  replace hup := Box.mk hup
  replace hus := Box.mk hus
  replace q2 := Box.mk q2
  replace q2' := Box.mk q2'
  have hB0 : Box (Below w.heap.size w w) := ⟨Below.refl _ _⟩
  obtain ⟨E, hE⟩ : ∃ E, (if idV H (U H) = i then (0 : Int) else 9) = E := ⟨_, rfl⟩
  rw [hE]
  replace hE := Box.mk hE
  clear hq ht hcut hu0 hU hO hHe hNe q3
  go_enter Tryz.func16, Tryz.ntmps16
  go_wp2_with fail
  refine hF.mono ?_
  clear hF
  rintro e w1 ⟨rfl, hb1⟩
  have hF := hR.out w1
  replace hb1 := Box.mk hb1
  go_wp2_with fail
  refine hF.mono ?_
  clear hF hR
  rintro e w2 ⟨rfl, hb2⟩
  have hB2 : Box (Below w.heap.size w w2) := ⟨mono_bel hb1.out hb2 (Nat.le_refl _)⟩
  clear hb1 hb2 hB0
  go_wp2_with fail
  go_loopw [9, 11] (fun v9 v11 wr => ∃ j : Nat, j ≤ H ∧ v9 = .string (U j) ∧ v11 = .int .i64 (j : Int) ∧ Box (Below w.heap.size w wr)) (fun _ v11 _ => H - (intOf v11).toNat)
  case atStart => exact ⟨0, by omega, rfl, rfl, hB2⟩
  case round =>
    clear hB2
    obtain ⟨j, hj, rfl, rfl, hB⟩ := hrel
    by_cases hlt : j < H
    · have e1 : (291 + 32 * (j : Int)).toNat = 291 + 32 * j := by omega
      have e2 : (323 + 32 * (j : Int)).toNat = 291 + 32 * j + 32 := by omega
      have e3 : 323 + 32 * (j : Int) ≤ (q.size : Int) := by rw [q2'.out]; omega
      have hus1 := hus.out j
      have hup1 := hup.out j hlt
      have hxs : (q.extract (291 + 32 * j) (291 + 32 * j + 32)).size = 32 := by rw [ByteArray.size_extract]; have := q2.out; omega
      obtain ⟨x, hx⟩ : ∃ x, q.extract (291 + 32 * j) (291 + 32 * j + 32) = x := ⟨_, rfl⟩
      rw [hx] at hup1 hxs
      obtain ⟨u, hu⟩ : ∃ u, U j = u := ⟨_, rfl⟩
      rw [hu] at hup1 hus1 ⊢
      obtain ⟨m, hm⟩ : ∃ m, N / 2 ^ j = m := ⟨_, rfl⟩
      rw [hm] at hup1
      have hT1 := fun w1 : World => rtag_parts 37 (.slice (some ⟨w1.heap.size, 0, none⟩) 2 2) [u, x] (w1.alloc (.cells #[.string u, .string x] 9)) (parts_new w1 [u, x] 9) (by have := tag2_len 37 u x (by omega) (by omega); omega) (by simp)
      have hT2 := fun w1 : World => rtag_parts 37 (.slice (some ⟨w1.heap.size, 0, none⟩) 2 2) [x, u] (w1.alloc (.cells #[.string x, .string u] 9)) (parts_new w1 [x, u] 9) (by have := tag2_len 37 x u (by omega) (by omega); omega) (by simp)
      have hdv : (N : Int) / 2 ^ j = (m : Int) := by rw [← hm]; simp
      by_cases h2 : m % 2 = 0
      · have hrm : (m : Int).tmod 2 = 0 := by rw [Int.tmod_eq_emod_of_nonneg (by omega)]; omega
        rw [if_pos h2] at hup1
        replace hup1 := Box.mk hup1
        go_wp2_with fail
        refine (hT1 wr).mono ?_
        rintro e w3 ⟨rfl, hb3⟩
        have hB3 : Box (Below w.heap.size w w3) := ⟨(hB.out.alloc hB.out.size _).trans (hb3.mono (by have := hB.out.size; simp; omega))⟩
        clear hT1 hT2 hb3 hB
        go_wp2_with fail
        exact ⟨⟨j + 1, by omega, by rw [hup1.out]; rfl, by go_num, hB3⟩, by simp [intOf]; omega⟩
      · have hrm : (m : Int).tmod 2 = 1 := by rw [Int.tmod_eq_emod_of_nonneg (by omega)]; omega
        rw [if_neg h2] at hup1
        replace hup1 := Box.mk hup1
        go_wp2_with fail
        refine (hT2 wr).mono ?_
        rintro e w3 ⟨rfl, hb3⟩
        have hB3 : Box (Below w.heap.size w w3) := ⟨(hB.out.alloc hB.out.size _).trans (hb3.mono (by have := hB.out.size; simp; omega))⟩
        clear hT1 hT2 hb3 hB
        go_wp2_with fail
        exact ⟨⟨j + 1, by omega, by rw [hup1.out]; rfl, by go_num, hB3⟩, by simp [intOf]; omega⟩
    · obtain rfl : j = H := by omega
      have hF := hI.out wr
      obtain ⟨y, hy⟩ : ∃ y, idV j (U j) = y := ⟨_, rfl⟩
      rw [hy] at hF
      replace hy := Box.mk hy
      go_wp2_with fail
      refine hF.mono ?_
      rintro e w3 ⟨rfl, hb3⟩
      have hB3 : Box (Below w.heap.size w w3) := ⟨mono_bel hB.out hb3 (Nat.le_refl _)⟩
      clear hF hb3 hB
      by_cases he : y = i
      · subst he
        go_wp2_with fail
        go_returns
        exact ⟨by rw [← hE.out, hy.out]; simp, hB3.out⟩
      · have he2 := txt_ne he
        have he3 : (y.toList == i.toList) = false := by simp [he2]
        go_wp2_with fail
        go_returns
        exact ⟨by rw [← hE.out, hy.out]; simp [he], hB3.out⟩
theorem r6verify_any (i t q : ByteArray) (w : World) (ht : t.size ≤ 140737488351232) :
    Calls Tryz.prog 16 #[.string i, .string t, .string q] w fun e w' => e = .returned (.int .i64 (verE i t q)) ∧ Below w.heap.size w w' := by
  unfold verE
  cases hq : sgOk q with
  | true => simpa using r6verify_ok i t q w hq ht
  | false => simpa using r6verify_no i t q w hq
end Go.Proofs.YtbnmdieadaeeiaaGreatDoor

namespace Go.Proofs.YtbnmdieadaeeiaaGreatDoor
open Go Go.RowKit

set_option maxHeartbeats 1600000 in
set_option maxRecDepth 100000 in
theorem law_verify (i t q : ByteArray) (w : World) (hK : KIs w) (ht : t.size ≤ 140737488351232) :
    Calls Tryz.prog 4 #[.string i, .string t, .string q] w fun e w' => e = .returned (.bool true) ∧ Below w.heap.size w w' := by
  have h0 := signs_key w hK
  have hN := fun w1 => number_key q w1
  have hM := fun w1 => r6number_any q w1
  have hV := fun w1 (hb : Below w.heap.size w w1) => verify_any i t q w1 (hK.below hb hK.lt) (by omega)
  have hU := fun w1 => r6verify_any i t q w1 ht
  have hnot : ∀ (x : Bool) (w : World), (Op.unary .not (.bool x)).run Tryz.prog w = .ok (.bool (!x)) w := fun _ _ => rfl
  obtain ⟨n, hn⟩ : ∃ n : Int, ((numE q).1 : Int) = n := ⟨_, rfl⟩
  obtain ⟨e, he⟩ : ∃ e : Int, (numE q).2 = e := ⟨_, rfl⟩
  obtain ⟨v, hv⟩ : ∃ v : Int, verE i t q = v := ⟨_, rfl⟩
  rw [hn, he] at hN hM
  rw [hv] at hV hU
  replace hN := Box.mk hN
  replace hM := Box.mk hM
  replace hV := Box.mk hV
  replace hU := Box.mk hU
  clear hK hn he hv ht
  go_enter Tryz.func4, Tryz.ntmps4
  go_wp2_with fail
  refine h0.mono ?_
  clear h0
  rintro r w1 ⟨rfl, hb1⟩
  have hF := hN.out w1
  replace hb1 := Box.mk hb1
  clear hN
  go_wp2_with fail
  refine hF.mono ?_
  clear hF
  rintro r w2 ⟨rfl, hb2⟩
  have hB2 := Box.mk (mono_bel hb1.out hb2 (Nat.le_refl _))
  have hF := hM.out w2
  clear hb1 hb2 hM
  go_wp2_with fail
  refine hF.mono ?_
  clear hF
  rintro r w3 ⟨rfl, hb3⟩
  have hB3 := Box.mk (mono_bel hB2.out hb3 (Nat.le_refl _))
  have hF := hV.out w3 hB3.out
  clear hB2 hb3 hV
  go_wp2_with fail
  refine hF.mono ?_
  clear hF
  rintro r w4 ⟨rfl, hb4⟩
  have hB4 := Box.mk (mono_bel hB3.out hb4 (Nat.le_refl _))
  have hF := hU.out w4
  clear hB3 hb4 hU
  go_wp2_with fail
  refine hF.mono ?_
  clear hF
  rintro r w5 ⟨rfl, hb5⟩
  have hB5 := Box.mk (mono_bel hB4.out hb5 (Nat.le_refl _))
  clear hB4 hb5
  go_wp2_with fail
  go_ret
  exact ⟨rfl, hB5.out⟩
end Go.Proofs.YtbnmdieadaeeiaaGreatDoor
