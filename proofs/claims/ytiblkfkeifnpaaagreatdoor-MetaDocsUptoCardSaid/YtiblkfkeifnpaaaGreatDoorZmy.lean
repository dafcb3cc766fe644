/- meta: long signatures; Seal of both. | meta: Seal of the document. | meta: Unseal of both, Hash. -/
import Derived.Test.YtiblkfkeifnpaaaGreatDoorZmh
import Derived.Test.YtiblkfkeifnpaaaGreatDoorZma
set_option linter.all false
namespace Go.Proofs.YtiblkfkeifnpaaaGreatDoor.Me
open Go Go.RowKit Go.Proofs.YtiblkfkeifnpaaaGreatDoor Go.Proofs.YtiblkfkeifnpaaaGreatDoor.Nt
def fst {α : Type} (p : α → Bool) : List α → Nat
  | [] => 0
  | x :: r => if p x = true then 0 else fst p r + 1
theorem fst_le {α : Type} (p : α → Bool) : ∀ l, fst p l ≤ l.length
  | [] => Nat.le_refl _
  | x :: r => by rw [fst]; have := fst_le p r; split <;> simp <;> omega
theorem fst_at {α : Type} [Inhabited α] (p : α → Bool) : ∀ (l : List α) (i : Nat), i ≤ fst p l → ((i < l.length ∧ p (l.getD i default) = false) ↔ i < fst p l)
  | [], i, h => by simp [fst]
  | x :: l, i, h => by
    rw [fst] at h ⊢
    by_cases ha : p x = true
    · rw [if_pos ha] at h ⊢
      obtain rfl : i = 0 := by omega
      simp [ha]
    · rw [if_neg ha] at h ⊢
      cases i with
      | zero => simp [ha]
      | succ i =>
        have := fst_at p l i (by omega)
        simp only [List.length_cons, Nat.succ_lt_succ_iff, List.getD_cons_succ]
        exact this
theorem fst_any {α : Type} (p : α → Bool) : ∀ l : List α, l.any p = decide (fst p l < l.length)
  | [] => rfl
  | x :: l => by
    rw [List.any_cons, fst, fst_any p l]
    by_cases ha : p x = true
    · rw [if_pos ha, ha]; simp
    · rw [if_neg ha, Bool.eq_false_iff.2 ha, Bool.false_or]; simp
def idxI {α : Type} (p : α → Bool) (l : List α) : Int := if fst p l < l.length then (fst p l : Int) else -1
set_option maxHeartbeats 3200000 in
set_option maxRecDepth 100000 in
theorem index_long0 (P : ByteArray × ByteArray → Bool) (a : Option Addr) (n c : Nat) (sg : List (ByteArray × ByteArray)) (w : World) (hv : SigsAt w (.slice a n c) sg) (hn : sg.length = n) (hm : n ≤ 4611686018427387903)
    (hP : ∀ i, i < sg.length → ∀ W, Below w.heap.size w W → Calls Tryz.prog 59 #[.agg #[.string (sg.getD i default).1, .string (sg.getD i default).2]] W fun e w' => e = .returned (.bool (P (sg.getD i default))) ∧ Below W.heap.size W w') :
    Calls Tryz.prog 106 #[.slice a n c, .func (.func 59) #[] #[]] w fun e w' => e = .returned (.int .i64 (idxI P sg)) ∧ Below w.heap.size w w' := by
  have hle := fst_le P sg
  have hat := fst_at P sg
  have hix : idxI P sg = if fst P sg < sg.length then (fst P sg : Int) else -1 := rfl
  obtain ⟨X, hX⟩ : ∃ X, idxI P sg = X := ⟨_, rfl⟩
  rw [hX] at hix ⊢
  obtain ⟨k, hk⟩ : ∃ k, fst P sg = k := ⟨_, rfl⟩
  rw [hk] at hle hat hix
  rw [hn] at hle hat hix
  have hvB := Box.mk hv
  have hnB := Box.mk hn
  have hatB := Box.mk hat
  have hixB := Box.mk hix
  have hPB := Box.mk hP
  have hB0 : Box (Below w.heap.size w w) := ⟨Below.refl _ _⟩
  clear hv hn hP hX hk hat hix
  go_enter Tryz.func106, Tryz.ntmps106
  go_wp2_with fail
  go_loopw [8] (fun q wr => ∃ i : Nat, i ≤ k ∧ q = .int .i64 (i : Int) ∧ Box (Below w.heap.size w wr)) (fun q _ => n - (intOf q).toNat)
  case atStart => exact ⟨0, by omega, rfl, hB0⟩
  case round =>
    clear hB0
    obtain ⟨i, hi, rfl, hB⟩ := hrel
    by_cases hlt : i < n
    · have hig : i < sg.length := by rw [hnB.out]; exact hlt
      obtain ⟨b1, o1, rfl, k0, k1⟩ := (hvB.out.here hB.out).at i hig
      have hF := hPB.out i hig wr hB.out
      have hka := hatB.out i hi
      obtain ⟨x, hx⟩ : ∃ x, sg.getD i default = x := ⟨_, rfl⟩
      rw [hx] at k0 k1 hF hka
      obtain ⟨x1, x2⟩ := x
      simp only at k0 k1 hF
      obtain ⟨r, hr⟩ : ∃ r, P (x1, x2) = r := ⟨_, rfl⟩
      rw [hr] at hF hka
      have hii : (i : Int) < (n : Int) := by omega
      clear hx hig hr
      cases r with
      | true =>
        have hik : i = k := by
          rcases Nat.lt_or_ge i k with h | h
          · have := (hka.2 h).2; cases this
          · omega
        have hXe : X = (i : Int) := by rw [hixB.out, if_pos (by omega), hik]
        replace hXe := Box.mk hXe
        clear hka hik
        go_wp2_with fail
        refine hF.mono ?_
        clear hF
        rintro e w3 ⟨rfl, hb3⟩
        have hB3 := Box.mk (mono_bel hB.out hb3 (Nat.le_refl _))
        clear hb3 hB
        go_wp2_with fail
        go_ret
        exact ⟨ret_i hXe.out, hB3.out⟩
      | false =>
        have hik : i < k := hka.1 ⟨hlt, rfl⟩
        clear hka
        go_wp2_with fail
        refine hF.mono ?_
        clear hF
        rintro e w3 ⟨rfl, hb3⟩
        have hB3 := Box.mk (mono_bel hB.out hb3 (Nat.le_refl _))
        clear hb3 hB k0 k1
        go_wp2_with fail
        exact ⟨⟨i + 1, by omega, by go_num, hB3⟩, by simp [intOf]; omega⟩
    · have hXe : X = -1 := by rw [hixB.out, if_neg (by omega)]
      obtain rfl : i = n := by omega
      replace hXe := Box.mk hXe
      go_wp2_with fail
      go_ret
      exact ⟨ret_i hXe.out, hB.out⟩
def longB (x : SigM) : Bool := decide (1024 < (x.2.size : Int))
set_option maxHeartbeats 3200000 in
set_option maxRecDepth 100000 in
theorem longsig_any (x1 x2 : ByteArray) (w : World) :
    Calls Tryz.prog 59 #[.agg #[.string x1, .string x2]] w fun e w' => e = .returned (.bool (longB (x1, x2))) ∧ Below w.heap.size w w' := by
  obtain ⟨W1, hW1⟩ : ∃ W1, w.alloc (.cells #[.string x1, .string x2] 59) = W1 := ⟨_, rfl⟩
  have hB1 : Box (Below w.heap.size w W1) := ⟨by rw [← hW1]; exact bel_alloc _ _⟩
  have hS1 : Pk.Blk W1 w.heap.size [.string x1, .string x2] 59 := by rw [← hW1]; exact Pk.Blk.new w _ _
  have s0 : W1.cell? ⟨w.heap.size, 0, none⟩ = some (.string x1) := hS1.cell 0
  have s1 : W1.cell? ⟨w.heap.size, 1, none⟩ = some (.string x2) := hS1.cell 1
  unfold longB
  clear hS1
  go_enter Tryz.func59, Tryz.ntmps59
  go_wp2_with fail
  go_ret
  exact ⟨rfl, hB1.out⟩
set_option maxHeartbeats 3200000 in
set_option maxRecDepth 100000 in
theorem contains_long (a : Option Addr) (n c : Nat) (sg : List (ByteArray × ByteArray)) (w : World) (hv : SigsAt w (.slice a n c) sg) (hn : sg.length = n) (hm : n ≤ 4611686018427387903) :
    Calls Tryz.prog 58 #[.slice a n c, .func (.func 59) #[] #[]] w fun e w' => e = .returned (.bool (sg.any longB)) ∧ Below w.heap.size w w' := by
  have hF := index_long0 longB a n c sg w hv hn hm fun i _ W _ => longsig_any _ _ W
  have hr : (sg.any longB) = decide (0 ≤ idxI longB sg) := by
    rw [fst_any]
    unfold idxI
    by_cases h : fst longB sg < sg.length
    · rw [if_pos h, decide_eq_true h, decide_eq_true]; omega
    · rw [if_neg h, decide_eq_false h]; rfl
  rw [hr]
  obtain ⟨X, hX⟩ : ∃ X, idxI longB sg = X := ⟨_, rfl⟩
  rw [hX] at hF ⊢
  clear hv hn hm hr hX
  go_enter Tryz.func58, Tryz.ntmps58
  go_wp2_with fail
  refine hF.mono ?_
  rintro e w2 ⟨rfl, hb2⟩
  replace hb2 := Box.mk hb2
  clear hF
  go_wp2_with fail
  go_ret
  exact ⟨rfl, hb2.out⟩
def sealR (body : ByteArray) (sg : List SigM) : Value := .tuple #[.string (sealV body sg).1, .int .i64 (sealV body sg).2]
theorem seal_long {body : ByteArray} {sg : List SigM} (h : sg.any longB = true) : sealR body sg = .tuple #[.string ⟨#[]⟩, .int .i64 1] := by
  have : sealB body sg = false := by
    rcases Bool.eq_false_or_eq_true (sealB body sg) with h0 | h0
    · exfalso
      simp only [sealB, Bool.and_eq_true, decide_eq_true_iff, List.all_eq_true] at h0
      obtain ⟨x, hx, hl⟩ := List.any_eq_true.1 h
      have := (h0.2.2 x hx).2
      unfold longB at hl
      have hl := of_decide_eq_true hl
      omega
    · exact h0
  unfold sealR sealV; rw [this]; rfl
theorem seal_many {body : ByteArray} {sg : List SigM} (h : 16 < sg.length) : sealR body sg = .tuple #[.string ⟨#[]⟩, .int .i64 1] := by
  have : sealB body sg = false := by
    unfold sealB; rw [decide_eq_false (show ¬ sg.length ≤ 16 by omega)]; simp
  unfold sealR sealV; rw [this]; rfl
theorem short_all {sg : List SigM} (h : sg.any longB = false) : ∀ x ∈ sg, x.2.size ≤ 1024 := fun x hx => by
  have := List.any_eq_false.1 h x hx
  unfold longB at this
  have := of_decide_eq_false (by simpa using this : decide (1024 < (x.2.size : Int)) = false)
  omega
theorem seal_yes {body : ByteArray} {sg : List SigM} (h : sealB body sg = true) : sealR body sg = .tuple #[.string (Pk.btx (laySe (body, sg))), .int .i64 0] := by
  unfold sealR sealV; rw [h]; rfl
theorem seal_no {body : ByteArray} {sg : List SigM} (h : sealB body sg = false) : sealR body sg = .tuple #[.string ByteArray.empty, .int .i64 1] := by
  unfold sealR sealV; rw [h]; rfl
set_option maxHeartbeats 3200000 in
set_option maxRecDepth 100000 in
theorem seal_any (body : ByteArray) (a : Option Addr) (n c : Nat) (sg : List SigM) (w : World) (hv : SigsAt w (.slice a n c) sg) (hn : sg.length = n) (hm : n ≤ 4611686018427387903) :
    Calls Tryz.prog 17 #[.string body, .slice a n c] w fun e w' => e = .returned (sealR body sg) ∧ Below w.heap.size w w' := by
  have hB0 : Box (Below w.heap.size w w) := ⟨Below.refl _ _⟩
  by_cases h16 : 16 < n
  · rw [seal_many (by omega)]
    have h16' : decide ((n : Int) > 16) = true := decide_eq_true (by omega)
    clear hv hn hm h16
    go_enter Tryz.func17, Tryz.ntmps17
    go_wp2_with fail
    go_returns
    exact ⟨rfl, hB0.out⟩
  have h16' : decide ((n : Int) > 16) = false := decide_eq_false (by omega)
  have hC := contains_long a n c sg w hv hn hm
  have hvB := Box.mk hv
  have hnB := Box.mk hn
  have h16B := Box.mk h16
  cases hl : sg.any longB with
  | true =>
    rw [seal_long hl]
    rw [hl] at hC
    clear hv hn hm h16 hl hB0
    go_enter Tryz.func17, Tryz.ntmps17
    go_wp2_with fail
    refine hC.mono ?_
    clear hC
    rintro e w1 ⟨rfl, hb⟩
    replace hb := Box.mk hb
    go_wp2_with fail
    go_returns
    exact ⟨rfl, hb.out⟩
  | false =>
    rw [hl] at hC
    have hsh := Box.mk (short_all hl)
    clear hv hn hm h16 hl hB0
    obtain ⟨Rv, hRv⟩ : ∃ R, sealR body sg = R := ⟨_, rfl⟩
    rw [hRv]
    go_enter Tryz.func17, Tryz.ntmps17
    go_wp2_with fail
    refine hC.mono ?_
    clear hC
    rintro e w1 ⟨rfl, hb⟩
    have hB2 := Box.mk hb
    obtain ⟨W2, hW2⟩ : ∃ W2, w1.alloc (.cells #[.slice none 0 0, .bool false] 68) = W2 := ⟨_, rfl⟩
    have hW : Box (Wr w1 W2 w1.heap.size 68 []) := ⟨by rw [← hW2]; exact wr_new _ _⟩
    have hK : Box (Kp w1.heap.size w1 W2) := ⟨by rw [← hW2]; exact Kp.below (bel_alloc _ _)⟩
    obtain ⟨bw, hbw⟩ : ∃ bw, w1.heap.size = bw := ⟨_, rfl⟩
    rw [hbw] at hW hK
    have hv1 := Box.mk (hvB.out.here hb)
    clear hb
    have hq := Box.mk (w_text hW.out (by simp) body)
    go_wp2_with fail
    refine hq.out.mono ?_
    clear hq
    rintro e v4 ⟨rfl, hw, hk⟩
    replace hW := Box.mk hw
    replace hK := Box.mk (hK.out.trans hk)
    clear hw hk
    have hq := w_sigs hW.out (by simp) sg a c (by rw [hnB.out]; exact hv1.out) (by have := hnB.out; have := h16B.out; omega)
    rw [hnB.out] at hq
    replace hq := Box.mk hq
    go_wp2_with fail
    refine hq.out.mono ?_
    clear hq
    rintro e v5 ⟨rfl, hw, hk⟩
    replace hW := Box.mk hw
    clear hw hk hK
    have hB5 := Box.mk (mono_bel hB2.out hW.out.bel (Nat.le_refl _))
    cases hs : sealB body sg with
    | true =>
      have hq := w_bytes hW.out (s := laySe (body, sg)) (by simpa using fit_seal hs)
      have hR2 : Box (Rv = _) := ⟨hRv.symm.trans (seal_yes hs)⟩
      clear hs hW hRv
      go_wp2_with fail
      refine hq.mono ?_
      clear hq
      rintro e w5 ⟨rfl, rfl⟩
      go_wp2_with fail
      go_returns
      exact ⟨by rw [hR2.out]; rfl, hB5.out⟩
    | false =>
      have hq := w_bad hW.out (by have := seal_bad (by rw [hnB.out]; exact Nat.le_of_not_lt h16B.out) hsh.out hs; simpa using this)
      have hR2 : Box (Rv = _) := ⟨hRv.symm.trans (seal_no hs)⟩
      clear hs hW hRv
      go_wp2_with fail
      refine hq.mono ?_
      clear hq
      rintro e w5 ⟨rfl, rfl⟩
      go_wp2_with fail
      go_returns
      exact ⟨by rw [hR2.out]; rfl, hB5.out⟩
end Go.Proofs.YtiblkfkeifnpaaaGreatDoor.Me

namespace Go.Proofs.YtiblkfkeifnpaaaGreatDoor.Me
open Go Go.RowKit Go.Proofs.YtiblkfkeifnpaaaGreatDoor Go.Proofs.YtiblkfkeifnpaaaGreatDoor.Nt
def flg (x : SigM) : Bool × List UInt8 := (!longB x, [])
theorem flg_take (sg : List SigM) (i : Nat) (h : i < sg.length) : (sg.take (i + 1)).map flg = (sg.take i).map flg ++ [flg (sg.getD i default)] := by
  rw [List.take_succ_eq_append_getElem h, List.map_append]
  simp [List.getD, h]
theorem flg_any (sg : List SigM) : (sg.map flg).any (fun x => !x.1) = sg.any longB := by
  rw [List.any_map]; congr 1; funext x; simp [flg]
theorem flg_fit : ∀ {sg : List SigM}, sg.any longB = false → Fit (sg.map flg) []
  | [], _ => Fit.nil
  | x :: sg, h => by
    rw [List.any_cons, Bool.or_eq_false_iff] at h
    have := Fit.cons (x := flg x) (by simp [flg, h.1]) (flg_fit h.2)
    exact this
theorem wr_flag {W0 w : World} {b : Nat} {its : List (Bool × List UInt8)} {v : Value} {l : List UInt8} {bad : Bool} (h : Wr W0 w b 75 its) (h1 : Pk.WAt w b 75 v l bad) (h2 : Laid its [] false l bad) (h3 : ∀ k, v.ownBlock = some k → W0.heap.size ≤ k) (x : SigM) (bad' : Bool) (hb : bad' = (bad || longB x)) :
    Wr W0 (w.setCell ⟨b, 1, none⟩ (.bool bad')) b 75 (its ++ [flg x]) ∧ Kp b w (w.setCell ⟨b, 1, none⟩ (.bool bad')) := by
  have k := h2.laysX (!longB x) [] (fun _ => by simp)
  have e : Pk.laysX (!longB x) [] l = l := by unfold Pk.laysX; simp
  rw [e, Bool.not_not, ← hb] at k
  exact wr_next h1 h3 h.bel h.hb (Pk.WNext.setBad h1 (by decide) bad') k
set_option maxHeartbeats 3200000 in
set_option maxRecDepth 100000 in
theorem rseal_any (body : ByteArray) (a : Option Addr) (n c : Nat) (sg : List SigM) (w : World) (hv : SigsAt w (.slice a n c) sg) (hn : sg.length = n) (hm : n ≤ 4611686018427387903) :
    Calls Tryz.prog 18 #[.string body, .slice a n c] w fun e w' => e = .returned (sealR body sg) ∧ Below w.heap.size w w' := by
  have hB0 : Box (Below w.heap.size w w) := ⟨Below.refl _ _⟩
  by_cases h16 : 16 < n
  · rw [seal_many (by omega)]
    have h16' : decide ((n : Int) > 16) = true := decide_eq_true (by omega)
    clear hv hn hm h16
    go_enter Tryz.func18, Tryz.ntmps18
    go_wp2_with fail
    go_returns
    exact ⟨rfl, hB0.out⟩
  have h16' : decide ((n : Int) > 16) = false := decide_eq_false (by omega)
  have hvB := Box.mk hv
  have hnB := Box.mk hn
  have h16B := Box.mk h16
  have hn16 : n ≤ 16 := by omega
  clear hv hn hm h16 hB0
  obtain ⟨Rv, hRv⟩ : ∃ R, sealR body sg = R := ⟨_, rfl⟩
  rw [hRv]
  replace hRv := Box.mk hRv
  obtain ⟨W2, hW2⟩ : ∃ W2, w.alloc (.cells #[.slice none 0 0, .bool false] 75) = W2 := ⟨_, rfl⟩
  have hW : Box (Wr w W2 w.heap.size 75 []) := ⟨by rw [← hW2]; exact wr_new _ _⟩
  have hK : Box (Kp w.heap.size w W2) := ⟨by rw [← hW2]; exact Kp.below (bel_alloc _ _)⟩
  obtain ⟨bw, hbw⟩ : ∃ bw, w.heap.size = bw := ⟨_, rfl⟩
  rw [hbw] at hW hK
  go_enter Tryz.func18, Tryz.ntmps18
  have hq := Box.mk (x_text hW.out (by simp) body)
  go_wp2_with fail
  refine hq.out.mono ?_
  clear hq
  rintro e v4 ⟨rfl, hw, hk⟩
  replace hW := Box.mk hw
  replace hK := Box.mk (hK.out.trans hk)
  clear hw hk
  have hq := x_sigs hW.out (by simp) sg a c (by rw [hnB.out]; exact hvB.out) (by have := hnB.out; have := h16B.out; omega)
  rw [hnB.out] at hq
  replace hq := Box.mk hq
  go_wp2_with fail
  refine hq.out.mono ?_
  clear hq
  rintro e v5 ⟨rfl, hw, hk⟩
  have hW0 : Box (Wr w v5 bw 75 ((txI body :: sigIs sg) ++ (sg.take 0).map flg)) := ⟨hw.eq (by simp)⟩
  clear hw hk hK hW
  go_wp2_with fail
  go_loopw [7] (fun q wr => ∃ i : Nat, i ≤ n ∧ q = .int .i64 (i : Int) ∧ Box (Wr w wr bw 75 ((txI body :: sigIs sg) ++ (sg.take i).map flg))) (fun q _ => n - (intOf q).toNat)
  case atStart => exact ⟨0, by omega, rfl, hW0⟩
  case round =>
    clear hW0
    obtain ⟨i, hi, rfl, hA⟩ := hrel
    by_cases hlt : i < n
    · have hig : i < sg.length := by rw [hnB.out]; exact hlt
      obtain ⟨b1, o1, rfl, k0, k1⟩ := (hvB.out.here (by rw [hbw]; have := hA.out.bel; rw [hbw] at this; exact this)).at i hig
      have htk := flg_take sg i hig
      obtain ⟨x, hx⟩ : ∃ x, sg.getD i default = x := ⟨_, rfl⟩
      rw [hx] at k0 k1 htk
      obtain ⟨x1, x2⟩ := x
      simp only at k0 k1
      obtain ⟨v, l, bad, h1, h2, h3⟩ := hA.out.out
      have c1 : wr.cell? ⟨bw, 1, none⟩ = some (.bool bad) := h1.blk.cell 1
      have f1 := h1.blk.free 1
      have hL : longB (x1, x2) = decide (1024 < (x2.size : Int)) := rfl
      obtain ⟨lb, hlb⟩ : ∃ b, decide (1024 < (x2.size : Int)) = b := ⟨_, rfl⟩
      have hE := wr_flag hA.out h1 h2 h3 (x1, x2) (bad || lb) (by rw [hL, hlb])
      have hii : (i : Int) < (n : Int) := by omega
      have hg : (decide ((x2.size : Int) > 1024)) = lb := hlb
      obtain ⟨wb, hwb⟩ : ∃ wb, wr.setCell ⟨bw, 1, none⟩ (.bool (bad || lb)) = wb := ⟨_, rfl⟩
      rw [hwb] at hE
      have hE2 : Box (Wr w wb bw 75 ((txI body :: sigIs sg) ++ (sg.take (i + 1)).map flg)) := ⟨hE.1.eq (by rw [htk, List.append_assoc])⟩
      clear hE hA h1 h2 h3 htk hx hig hL k0
      cases bad with
      | true =>
        simp only [Bool.true_or] at hwb
        go_wp2_with fail
        exact ⟨⟨i + 1, by omega, by go_num, hE2⟩, by simp [intOf]; omega⟩
      | false =>
        simp only [Bool.false_or] at hwb
        go_wp2_with fail
        exact ⟨⟨i + 1, by omega, by go_num, hE2⟩, by simp [intOf]; omega⟩
    · obtain rfl : i = n := by omega
      have hall : sg.take i = sg := by rw [← hnB.out, List.take_length]
      rw [hall] at hA
      have hB5 := Box.mk hA.out.bel
      cases hs : sealB body sg with
      | true =>
        have hsh : sg.any longB = false := by
          rcases Bool.eq_false_or_eq_true (sg.any longB) with h0 | h0
          · have e1 := seal_long (body := body) h0
            rw [seal_yes hs] at e1
            simp at e1
          · exact h0
        have hq := x_bytes hA.out (s := laySe (body, sg)) (by have := (fit_seal hs).app (flg_fit hsh); simpa using this)
        have hR2 : Box (Rv = _) := ⟨hRv.out.symm.trans (seal_yes hs)⟩
        clear hs hA hRv hsh hall
        go_wp2_with fail
        refine hq.mono ?_
        clear hq
        rintro e w5 ⟨rfl, rfl⟩
        go_wp2_with fail
        go_returns
        exact ⟨by rw [hR2.out]; rfl, by rw [hbw]; have := hB5.out; rw [hbw] at this; exact this⟩
      | false =>
        have hany : (((txI body :: sigIs sg) ++ sg.map flg).any fun x => !x.1) = true := by
          rw [List.any_append, flg_any]
          rcases Bool.eq_false_or_eq_true (sg.any longB) with h0 | h0
          · rw [h0]; simp
          · rw [seal_bad (by rw [hnB.out]; exact Nat.le_of_not_lt h16B.out) (short_all h0) hs]; rfl
        have hq := x_bad hA.out hany
        have hR2 : Box (Rv = _) := ⟨hRv.out.symm.trans (seal_no hs)⟩
        clear hs hA hRv hany hall
        go_wp2_with fail
        refine hq.mono ?_
        clear hq
        rintro e w5 ⟨rfl, rfl⟩
        go_wp2_with fail
        go_returns
        exact ⟨by rw [hR2.out]; rfl, by rw [hbw]; have := hB5.out; rw [hbw] at this; exact this⟩
end Go.Proofs.YtiblkfkeifnpaaaGreatDoor.Me

namespace Go.Proofs.YtiblkfkeifnpaaaGreatDoor.Me
open Go Go.RowKit Go.Proofs.YtiblkfkeifnpaaaGreatDoor Go.Proofs.YtiblkfkeifnpaaaGreatDoor.Nt
/-- A row of signatures, new since B. -/
structure SgR (B : Nat) (w : World) (v : Value) (sg : List SigM) : Prop where
  row : Pk.Row w 59 2 v sg.length (sgC sg)
  own : ∀ k, v.ownBlock = some k → B ≤ k
theorem SgR.nil (B : Nat) (w : World) : SgR B w (.slice none 0 0) [] := ⟨Pk.Row.nil _ _ _, fun k hk => by cases hk⟩
theorem SgR.below {B : Nat} {w w' : World} {v : Value} {sg : List SigM} (h : SgR B w v sg) (hb : Below w.heap.size w w') : SgR B w' v sg := ⟨row_here h.row hb, h.own⟩
theorem SgR.at_ {B : Nat} {w : World} {v : Value} {sg : List SigM} (h : SgR B w v sg) : SigsAt w v sg := by
  obtain ⟨a, c, rfl⟩ := h.row.shape
  refine ⟨a, c, rfl, fun h0 => ?_⟩
  obtain ⟨g, c', e, hg⟩ := h.row.some h0
  cases e
  exact ⟨g, 0, rfl, hg, fun i hi => by
    obtain ⟨k1, k2⟩ := sgC_get sg i hi
    rw [Nat.zero_add]
    exact ⟨h.row.cells _ _ k1, h.row.cells _ _ k2⟩⟩
def UnsS (B : Nat) (l : List UInt8) (e : Ending) (w' : World) : Prop := ∃ a c, e = .returned (.tuple #[.string (unsM l).1, .slice a (unsM l).2.1.length c, .int .i64 (unsM l).2.2]) ∧ SgR B w' (.slice a (unsM l).2.1.length c) (unsM l).2.1
theorem uns_no {l : List UInt8} (h : Pk.endE (seP l 0).2.1 (seP l 0).2.2 ≠ 0 ∨ 16 < (okS (sgsP (textsR 65535 l 0).2.1 (textsR 65535 l 0).2.2)).length) : unsM l = (ByteArray.empty, [], 3) := by
  unfold unsM
  rw [if_neg]
  rintro ⟨h1, h2⟩
  rcases h with h | h
  · exact h h1
  · have h3 : (okS (sgsP (textsR 65535 l 0).2.1 (textsR 65535 l 0).2.2)).length ≤ (seP l 0).1.2.length := by
      show (okS _).length ≤ (sgsP (textsR 65535 l 0).2.1 (textsR 65535 l 0).2.2).1.length
      unfold okS; split
      · exact Nat.le_refl _
      · simp
    omega
theorem uns_yes {l : List UInt8} (h1 : Pk.endE (seP l 0).2.1 (seP l 0).2.2 = 0) (h : (okS (sgsP (textsR 65535 l 0).2.1 (textsR 65535 l 0).2.2)).length ≤ 16) : unsM l = ((textsR 65535 l 0).1, okS (sgsP (textsR 65535 l 0).2.1 (textsR 65535 l 0).2.2), 0) := by
  have he := ((endE_iff _ _).1 h1).2
  have ho : okS (sgsP (textsR 65535 l 0).2.1 (textsR 65535 l 0).2.2) = (seP l 0).1.2 := by
    unfold okS; rw [if_pos (show (sgsP (textsR 65535 l 0).2.1 (textsR 65535 l 0).2.2).2.2 = 0 from he)]; rfl
  unfold unsM
  rw [ho] at h ⊢
  rw [if_pos ⟨h1, h⟩]; rfl
set_option maxHeartbeats 3200000 in
set_option maxRecDepth 100000 in
theorem unseal_any (s : ByteArray) (w : World) :
    Calls Tryz.prog 19 #[.string s] w fun e w' => UnsS w.heap.size s.data.toList e w' ∧ Below w.heap.size w w' := by
  have hq := Pk.read_new s w
  obtain ⟨l, hl⟩ : ∃ l, s.data.toList = l := ⟨_, rfl⟩
  rw [hl] at hq ⊢
  obtain ⟨br, hbr⟩ : ∃ br, w.heap.size = br := ⟨_, rfl⟩
  rw [hbr] at hq
  replace hq := Box.mk hq
  clear hl
  go_enter Tryz.func19, Tryz.ntmps19
  go_wp2_with fail
  refine hq.out.mono ?_
  clear hq
  rintro r w2 ⟨rfl, hra, hbe⟩
  rw [← hbr] at hbe
  have hR : Box (Pk.RAt w2 br 119 l 0 ∧ Below w.heap.size w w2) := ⟨hra, hbe⟩
  clear hra hbe
  obtain ⟨T, hT⟩ : ∃ T, Pk.textR 65535 l 0 = T := ⟨_, rfl⟩
  have hq := Pk.rtext_any br l 0 65535 w2 hR.out.1
  rw [hT] at hq
  replace hq := Box.mk hq
  go_wp2_with fail
  refine hq.out.mono ?_
  clear hq
  rintro r w3 ⟨rfl, hn⟩
  replace hR : Box (Pk.RAt w3 br 119 T.2.1 T.2.2 ∧ Below w.heap.size w w3) := ⟨hn.at_, hR.out.2.trans (hn.chg.below hR.out.2.size fun _ hi => by rw [hi, ← hbr]; exact Nat.le_refl _)⟩
  clear hn
  obtain ⟨G, hG⟩ : ∃ G, takeS T.2.1 T.2.2 = G := ⟨_, rfl⟩
  have hq := takesigs_any br T.2.1 T.2.2 w3 hR.out.1
  rw [hG] at hq
  replace hq := Box.mk hq
  go_wp2_with fail
  refine hq.out.mono ?_
  clear hq
  rintro r w4 ⟨v, rfl, ht⟩
  obtain ⟨a, c, rfl⟩ := ht.row.shape
  have hs0 : SgR w.heap.size w4 (.slice a (okS G).length c) (okS G) := ⟨ht.row, fun k hk => Nat.le_trans hR.out.2.size (ht.own k hk)⟩
  replace hR : Box (Pk.RAt w4 br 119 G.2.1 G.2.2 ∧ Below w.heap.size w w4) := ⟨ht.at_, hR.out.2.trans (ht.chg.below hR.out.2.size fun _ hi => by rw [hi, ← hbr]; exact Nat.le_refl _)⟩
  obtain ⟨E, hE⟩ : ∃ E, Pk.endE G.2.1 G.2.2 = E := ⟨_, rfl⟩
  have hq := Pk.end_any br G.2.1 G.2.2 w4 hR.out.1
  rw [hE] at hq
  replace hq := Box.mk hq
  have hne : ∀ b cs, Pk.Blk w4 b cs 119 → (Value.slice a (okS G).length c).ownBlock ≠ some b := fun b cs hb => hs0.row.apart hb (by decide)
  have hs1 : Box (∀ w5, Pk.RNext w4 br 119 G.2.1 E w5 → SgR w.heap.size w5 (.slice a (okS G).length c) (okS G) ∧ Below w.heap.size w w5) := ⟨fun w5 hn => ⟨⟨hs0.row.chg hn.chg fun k hk e => hne br _ hR.out.1 (by rw [← e]; exact hk), hs0.own⟩, hR.out.2.trans (hn.chg.below hR.out.2.size fun _ hi => by rw [hi, ← hbr]; exact Nat.le_refl _)⟩⟩
  have eU1 := @uns_no l
  have eU2 := @uns_yes l
  have eT : textsR 65535 l 0 = (Pk.btx T.1, T.2) := by rw [← hT]; rfl
  have eG : sgsP T.2.1 T.2.2 = G := hG
  have eS : Pk.endE (seP l 0).2.1 (seP l 0).2.2 = E := by
    rw [← hE, ← eG]
    show Pk.endE (sgsP (textsR 65535 l 0).2.1 (textsR 65535 l 0).2.2).2.1 (sgsP (textsR 65535 l 0).2.1 (textsR 65535 l 0).2.2).2.2 = _
    rw [eT]
  rw [eS, eT] at eU1 eU2
  dsimp only at eU1 eU2
  rw [eG] at eU1 eU2
  replace eU1 := Box.mk eU1
  replace eU2 := Box.mk eU2
  clear hs0 ht hne eT eG eS hR hE hG hT
  go_wp2_with fail
  refine hq.out.mono ?_
  clear hq
  rintro r w5 ⟨rfl, hn⟩
  have hs2 := Box.mk (hs1.out w5 hn)
  clear hn hs1
  by_cases hE0 : E = 0
  · subst hE0
    by_cases h16 : (okS G).length ≤ 16
    · have hU := Box.mk (eU2.out rfl h16)
      have h16d : decide (((okS G).length : Int) > 16) = false := decide_eq_false (by omega)
      clear h16 eU1 eU2
      go_wp2_with fail
      go_returns
      exact ⟨⟨a, c, by rw [hU.out]; rfl, by rw [hU.out]; exact hs2.out.1⟩, hs2.out.2⟩
    · have hU := Box.mk (eU1.out (.inr (by omega)))
      have h16d : decide (((okS G).length : Int) > 16) = true := decide_eq_true (by omega)
      clear h16 eU1 eU2
      go_wp2_with fail
      go_returns
      exact ⟨⟨none, 0, by rw [hU.out]; rfl, by rw [hU.out]; exact SgR.nil _ _⟩, hs2.out.2⟩
  · have hU := Box.mk (eU1.out (.inl hE0))
    have hEd : (E != 0) = true := by simpa using hE0
    clear hE0 eU1 eU2
    go_wp2_with fail
    go_returns
    exact ⟨⟨none, 0, by rw [hU.out]; rfl, by rw [hU.out]; exact SgR.nil _ _⟩, hs2.out.2⟩
set_option maxHeartbeats 3200000 in
set_option maxRecDepth 100000 in
theorem runseal_any (s : ByteArray) (w : World) :
    Calls Tryz.prog 20 #[.string s] w fun e w' => UnsS w.heap.size s.data.toList e w' ∧ Below w.heap.size w w' := by
  have hq := Pk.xread_new s w
  obtain ⟨l, hl⟩ : ∃ l, s.data.toList = l := ⟨_, rfl⟩
  rw [hl] at hq ⊢
  obtain ⟨br, hbr⟩ : ∃ br, w.heap.size = br := ⟨_, rfl⟩
  rw [hbr] at hq
  replace hq := Box.mk hq
  clear hl
  go_enter Tryz.func20, Tryz.ntmps20
  go_wp2_with fail
  refine hq.out.mono ?_
  clear hq
  rintro r w2 ⟨rfl, hra, hbe⟩
  rw [← hbr] at hbe
  have hR : Box (Pk.RAt w2 br 124 l 0 ∧ Below w.heap.size w w2) := ⟨hra, hbe⟩
  clear hra hbe
  obtain ⟨T, hT⟩ : ∃ T, Pk.textR 65535 l 0 = T := ⟨_, rfl⟩
  have hq := Pk.xtext_any br l 0 65535 w2 hR.out.1
  rw [hT] at hq
  replace hq := Box.mk hq
  go_wp2_with fail
  refine hq.out.mono ?_
  clear hq
  rintro r w3 ⟨rfl, hn⟩
  replace hR : Box (Pk.RAt w3 br 124 T.2.1 T.2.2 ∧ Below w.heap.size w w3) := ⟨hn.at_, hR.out.2.trans (hn.chg.below hR.out.2.size fun _ hi => by rw [hi, ← hbr]; exact Nat.le_refl _)⟩
  clear hn
  obtain ⟨G, hG⟩ : ∃ G, takeS T.2.1 T.2.2 = G := ⟨_, rfl⟩
  have hq := xtakesigs_any br T.2.1 T.2.2 w3 hR.out.1
  rw [hG] at hq
  replace hq := Box.mk hq
  go_wp2_with fail
  refine hq.out.mono ?_
  clear hq
  rintro r w4 ⟨v, rfl, ht⟩
  obtain ⟨a, c, rfl⟩ := ht.row.shape
  have hs0 : SgR w.heap.size w4 (.slice a (okS G).length c) (okS G) := ⟨ht.row, fun k hk => Nat.le_trans hR.out.2.size (ht.own k hk)⟩
  replace hR : Box (Pk.RAt w4 br 124 G.2.1 G.2.2 ∧ Below w.heap.size w w4) := ⟨ht.at_, hR.out.2.trans (ht.chg.below hR.out.2.size fun _ hi => by rw [hi, ← hbr]; exact Nat.le_refl _)⟩
  obtain ⟨E, hE⟩ : ∃ E, Pk.endE G.2.1 G.2.2 = E := ⟨_, rfl⟩
  have hq := Pk.xend_any br G.2.1 G.2.2 w4 hR.out.1
  rw [hE] at hq
  replace hq := Box.mk hq
  have hne : ∀ b cs, Pk.Blk w4 b cs 124 → (Value.slice a (okS G).length c).ownBlock ≠ some b := fun b cs hb => hs0.row.apart hb (by decide)
  have hs1 : Box (∀ w5, Pk.RNext w4 br 124 G.2.1 E w5 → SgR w.heap.size w5 (.slice a (okS G).length c) (okS G) ∧ Below w.heap.size w w5) := ⟨fun w5 hn => ⟨⟨hs0.row.chg hn.chg fun k hk e => hne br _ hR.out.1 (by rw [← e]; exact hk), hs0.own⟩, hR.out.2.trans (hn.chg.below hR.out.2.size fun _ hi => by rw [hi, ← hbr]; exact Nat.le_refl _)⟩⟩
  have eU1 := @uns_no l
  have eU2 := @uns_yes l
  have eT : textsR 65535 l 0 = (Pk.btx T.1, T.2) := by rw [← hT]; rfl
  have eG : sgsP T.2.1 T.2.2 = G := hG
  have eS : Pk.endE (seP l 0).2.1 (seP l 0).2.2 = E := by
    rw [← hE, ← eG]
    show Pk.endE (sgsP (textsR 65535 l 0).2.1 (textsR 65535 l 0).2.2).2.1 (sgsP (textsR 65535 l 0).2.1 (textsR 65535 l 0).2.2).2.2 = _
    rw [eT]
  rw [eS, eT] at eU1 eU2
  dsimp only at eU1 eU2
  rw [eG] at eU1 eU2
  replace eU1 := Box.mk eU1
  replace eU2 := Box.mk eU2
  clear hs0 ht hne eT eG eS hR hE hG hT
  go_wp2_with fail
  refine hq.out.mono ?_
  clear hq
  rintro r w5 ⟨rfl, hn⟩
  have hs2 := Box.mk (hs1.out w5 hn)
  clear hn hs1
  by_cases hE0 : E = 0
  · subst hE0
    by_cases h16 : (okS G).length ≤ 16
    · have hU := Box.mk (eU2.out rfl h16)
      have h16d : decide (((okS G).length : Int) > 16) = false := decide_eq_false (by omega)
      clear h16 eU1 eU2
      go_wp2_with fail
      go_returns
      exact ⟨⟨a, c, by rw [hU.out]; rfl, by rw [hU.out]; exact hs2.out.1⟩, hs2.out.2⟩
    · have hU := Box.mk (eU1.out (.inr (by omega)))
      have h16d : decide (((okS G).length : Int) > 16) = true := decide_eq_true (by omega)
      clear h16 eU1 eU2
      go_wp2_with fail
      go_returns
      exact ⟨⟨none, 0, by rw [hU.out]; rfl, by rw [hU.out]; exact SgR.nil _ _⟩, hs2.out.2⟩
  · have hU := Box.mk (eU1.out (.inl hE0))
    have hEd : (E != 0) = true := by simpa using hE0
    clear hE0 eU1 eU2
    go_wp2_with fail
    go_returns
    exact ⟨⟨none, 0, by rw [hU.out]; rfl, by rw [hU.out]; exact SgR.nil _ _⟩, hs2.out.2⟩
end Go.Proofs.YtiblkfkeifnpaaaGreatDoor.Me
