/- Spans laid as bytes: what is laid (items: fits, bytes); Bytes of both. | Spans read from bytes: a model on lists; Read of both. | Walk of law 9's same: a span of the program's and the document's, of one size and with the same peaks. | A span's bytes are read back, on lists. -/
import Derived.OwnWalk
import Derived.Test.YtakmlbnjgkfaiaaDoorMSb
import Derived.Test.YtakmlbnjgkfaiaaDoorKPx
import Derived.Test.YtakmlbnjgkfaiaaDoorQq
namespace Go.Proofs.YtakmlbnjgkfaiaaDoor
open Go Go.RowKit

/-- What a run of items leaves: spoilt where one doesn't fit; else all is there. -/
structure Laid (its : List (Bool × List UInt8)) (l : List UInt8) (bad : Bool) : Prop where
  bad_eq : bad = its.any fun x => !x.1
  all : bad = false → l = its.flatMap fun x => x.2
  len : l.length ≤ 70000 * its.length
theorem Laid.nil : Laid [] [] false := ⟨by simp, fun _ => by simp, by simp⟩
theorem Laid.lays {its : List (Bool × List UInt8)} {l : List UInt8} {bad : Bool} (h : Laid its l bad) (ok : Bool) (s : List UInt8) (hs : ok = true → s.length ≤ 70000) : Laid (its ++ [(ok, s)]) (Pk.lays ok s l bad) (bad || !ok) := by
  refine ⟨by rw [List.any_append, h.bad_eq]; simp, fun hf => ?_, ?_⟩
  · simp only [Bool.or_eq_false_iff, Bool.not_eq_false'] at hf
    rw [Pk.lays, hf.1, hf.2, h.all hf.1]
    simp
  · have := h.len
    rw [Pk.lays, List.length_append]
    cases ok with
    | false => simp; omega
    | true =>
      have h2 := hs rfl
      cases bad <;> simp <;> omega
theorem Laid.laysX {its : List (Bool × List UInt8)} {l : List UInt8} {bad : Bool} (h : Laid its l bad) (ok : Bool) (s : List UInt8) (hs : ok = true → s.length ≤ 70000) : Laid (its ++ [(ok, s)]) (Pk.laysX ok s l) (bad || !ok) := by
  refine ⟨by rw [List.any_append, h.bad_eq]; simp, fun hf => ?_, ?_⟩
  · simp only [Bool.or_eq_false_iff, Bool.not_eq_false'] at hf
    rw [Pk.laysX, hf.2, h.all hf.1]
    simp
  · have := h.len
    rw [Pk.laysX, List.length_append]
    cases ok with
    | false => simp; omega
    | true =>
      have h2 := hs rfl
      simp; omega
/-- The bytes and the error that come out. -/
def ansT (its : List (Bool × List UInt8)) : ByteArray := if its.any (fun x => !x.1) then ByteArray.empty else ⟨(its.flatMap fun x => x.2).toArray⟩
def ansE (its : List (Bool × List UInt8)) : Int := if its.any (fun x => !x.1) then 1 else 0
theorem Laid.ans {its : List (Bool × List UInt8)} {l : List UInt8} {bad : Bool} (h : Laid its l bad) : Pk.bytesR l bad = .tuple #[.string (ansT its), .int .i64 (ansE its)] := by
  unfold ansT ansE Pk.bytesR
  rw [← h.bad_eq]
  cases bad with
  | true => simp
  | false => rw [← h.all rfl]; simp
def n8I (n : Int) : Bool × List UInt8 := (Pk.fits n 8, Pk.beN n.toNat 8)
def idI (s : ByteArray) : Bool × List UInt8 := (decide (s.size = 32), s.data.toList)
/-- A span's items. -/
def spI (n : Nat) (P : List ByteArray) : List (Bool × List UInt8) := n8I n :: P.map idI
theorem n8I_le (n : Int) : (n8I n).2.length ≤ 70000 := by
  show (Pk.beN n.toNat 8).length ≤ 70000
  rw [Pk.beN_length]; omega
theorem idI_le (s : ByteArray) (h : (idI s).1 = true) : (idI s).2.length ≤ 70000 := by
  have h1 : s.size = 32 := by simpa [idI] using h
  show s.data.toList.length ≤ _
  rw [data_len]; omega
theorem idI_take (ids : List ByteArray) (i : Nat) (h : i < ids.length) : (ids.take (i + 1)).map idI = (ids.take i).map idI ++ [idI (ids.getD i ByteArray.empty)] := by
  rw [List.take_succ_eq_append_getElem h, List.map_append]
  simp [List.getD, h]
/-- A writer that is new since w0, with these items laid. -/
structure BW (w0 : World) (t : TypeId) (b : Nat) (its : List (Bool × List UInt8)) (w : World) : Prop where
  out : ∃ v l bad, Pk.WAt w b t v l bad ∧ w0.heap.size ≤ b ∧ (∀ k, v.ownBlock = some k → w0.heap.size ≤ k) ∧ Laid its l bad ∧ Below w0.heap.size w0 w
theorem BW.new (w0 : World) (t : TypeId) : BW w0 t w0.heap.size [] (w0.alloc (.cells #[.slice none 0 0, .bool false] t)) :=
  ⟨.slice none 0 0, [], false, ⟨Pk.Blk.new w0 [.slice none 0 0, .bool false] t, Pk.Own.nil _⟩, Nat.le_refl _, (fun k hk => by cases hk), Laid.nil, bel_alloc _ _⟩
theorem BW.bel {w0 w : World} {t : TypeId} {b : Nat} {its : List (Bool × List UInt8)} (h : BW w0 t b its w) : Below w0.heap.size w0 w := by
  obtain ⟨_, _, _, _, _, _, _, hb⟩ := h.out
  exact hb
theorem BW.up {w0 w w' : World} {t : TypeId} {b : Nat} {v : Value} {l : List UInt8} {bad : Bool} {its : List (Bool × List UInt8)} (hb : w0.heap.size ≤ b) (hv : ∀ k, v.ownBlock = some k → w0.heap.size ≤ k) (hB : Below w0.heap.size w0 w) (hl : Laid its l bad) (hn : Pk.WNext w b t v l bad w') : BW w0 t b its w' := by
  obtain ⟨v', h1, h2, h3⟩ := hn.out
  refine ⟨v', l, bad, h1, hb, fun k hk => ?_, hl, hB.trans (h2.below hB.size fun i hi => ?_)⟩
  · rcases h3 k hk with e | e
    · exact hv k e
    · exact Nat.le_trans hB.size e
  · rcases hi with rfl | hi
    · exact hb
    · exact hv i hi
theorem bw_eight {w0 w : World} {b : Nat} (n : Int) (h : BW w0 64 b [] w) :
    Calls Tryd.prog 39 #[.pointer (some ⟨b, 0, none⟩), .int .i64 n] w fun e w' => e = .returned (.tuple #[]) ∧ BW w0 64 b [n8I n] w' := by
  obtain ⟨v, l, bad, h1, h2, h3, h4, h5⟩ := h.out
  have hl : l.length ≤ 70000 * 0 := h4.len
  exact (Pk.eight_any b v l bad n w h1 (by omega)).mono fun e w' ⟨he, hn⟩ => ⟨he, BW.up h2 h3 h5 (h4.lays (Pk.fits n 8) (Pk.beN n.toNat 8) fun _ => n8I_le n) hn⟩
theorem bw_hash {w0 w : World} {b : Nat} {its : List (Bool × List UInt8)} (s : ByteArray) (h : BW w0 64 b its w) (hl : its.length ≤ 1000) :
    Calls Tryd.prog 40 #[.pointer (some ⟨b, 0, none⟩), .string s] w fun e w' => e = .returned (.tuple #[]) ∧ BW w0 64 b (its ++ [idI s]) w' := by
  obtain ⟨v, l, bad, h1, h2, h3, h4, h5⟩ := h.out
  have hl2 := h4.len
  exact (Pk.hash_any b v l bad s w h1 (by omega)).mono fun e w' ⟨he, hn⟩ => ⟨he, BW.up h2 h3 h5 (h4.lays (decide (s.size = 32)) s.data.toList fun h => idI_le s h) hn⟩
theorem bw_bytes {w0 w : World} {b : Nat} {its : List (Bool × List UInt8)} (h : BW w0 64 b its w) :
    Calls Tryd.prog 41 #[.pointer (some ⟨b, 0, none⟩)] w fun e w' => e = .returned (.tuple #[.string (ansT its), .int .i64 (ansE its)]) ∧ w = w' := by
  obtain ⟨v, l, bad, h1, h2, h3, h4, h5⟩ := h.out
  have := Pk.bytes_any b v l bad w h1
  rw [h4.ans] at this
  exact this
theorem xbw_number {w0 w : World} {b : Nat} (n : Nat) (hn : n < 9223372036854775808) (h : BW w0 83 b [] w) :
    Calls Tryd.prog 60 #[.pointer (some ⟨b, 0, none⟩), .int .i64 (n : Int), .int .i64 8] w fun e w' => e = .returned (.tuple #[]) ∧ BW w0 83 b [n8I n] w' := by
  obtain ⟨v, l, bad, h1, h2, h3, h4, h5⟩ := h.out
  have hl : l.length ≤ 70000 * 0 := h4.len
  exact (Pk.xnum_any b v l bad (n : Int) 8 w (by omega) (by omega) h1 (by omega)).mono fun e w' ⟨he, hn⟩ => ⟨he, BW.up h2 h3 h5 (h4.laysX (Pk.fits (n : Int) 8) (Pk.beN (n : Int).toNat 8) fun _ => n8I_le n) hn⟩
theorem xbw_hash {w0 w : World} {b : Nat} {its : List (Bool × List UInt8)} (s : ByteArray) (h : BW w0 83 b its w) (hl : its.length ≤ 1000) :
    Calls Tryd.prog 61 #[.pointer (some ⟨b, 0, none⟩), .string s] w fun e w' => e = .returned (.tuple #[]) ∧ BW w0 83 b (its ++ [idI s]) w' := by
  obtain ⟨v, l, bad, h1, h2, h3, h4, h5⟩ := h.out
  have hl2 := h4.len
  exact (Pk.xhash_lay b v l bad s w h1 (by omega)).mono fun e w' ⟨he, hn⟩ => ⟨he, BW.up h2 h3 h5 (h4.laysX (decide (s.size = 32)) s.data.toList fun h => idI_le s h) hn⟩
theorem xbw_bytes {w0 w : World} {b : Nat} {its : List (Bool × List UInt8)} (h : BW w0 83 b its w) :
    Calls Tryd.prog 62 #[.pointer (some ⟨b, 0, none⟩)] w fun e w' => e = .returned (.tuple #[.string (ansT its), .int .i64 (ansE its)]) ∧ w = w' := by
  obtain ⟨v, l, bad, h1, h2, h3, h4, h5⟩ := h.out
  have := Pk.xbytes_any b v l bad w h1
  rw [h4.ans] at this
  exact this
/-- What Bytes of a span answers. -/
def BytIs (its : List (Bool × List UInt8)) (w : World) (e : Ending) (w' : World) : Prop := e = .returned (.tuple #[.string (ansT its), .int .i64 (ansE its)]) ∧ Below w.heap.size w w'
set_option maxHeartbeats 1600000 in
set_option maxRecDepth 100000 in
theorem sbytes_any (g n : Nat) (v : Value) (P : List ByteArray) (w : World) (h : SAt w 25 g n v P) (hl : P.length ≤ 64) :
    Calls Tryd.prog 22 #[PtrS g] w (BytIs (spI n P) w) := by
  obtain ⟨a, c, rfl⟩ := h.row.shape
  have hg := h.lt
  have k0 : ∀ w', Below w.heap.size w w' → w'.cell? ⟨g, 0, none⟩ = some (.int .i64 (n : Int)) := fun w' hb => (hb.cell (p := ⟨g, 0, none⟩) hg).trans (h.blk.cell 0)
  have k1 : ∀ w', Below w.heap.size w w' → w'.cell? ⟨g, 1, none⟩ = some (.slice a P.length c) := fun w' hb => (hb.cell (p := ⟨g, 1, none⟩) hg).trans (h.blk.cell 1)
  have hPA := Box.mk (h.row.pa rfl)
  have hnew := BW.new w 64
  have hlast : Box (P.take P.length = P) := ⟨List.take_length⟩
  have hit := Box.mk (idI_take P)
  obtain ⟨m, hm⟩ : ∃ m, P.length = m := ⟨_, rfl⟩
  rw [hm] at k1 hPA hlast hit hl
  obtain ⟨w1, hw1⟩ : ∃ W, w.alloc (.cells #[.slice none 0 0, .bool false] 64) = W := ⟨_, rfl⟩
  rw [hw1] at hnew
  obtain ⟨b, hb⟩ : ∃ b, w.heap.size = b := ⟨_, rfl⟩
  rw [hb] at hnew
  have q0 := k0 w1 hnew.bel
  have h1 := bw_eight (n : Int) hnew
  have hcap := hPA.out.cap
  have htop := hPA.out.top
  replace k0 := Box.mk k0
  replace k1 := Box.mk k1
  clear h hm hg hnew
  unfold PtrS
  go_enter Tryd.func22, Tryd.ntmps22
  go_wp2_with fail
  refine h1.mono ?_
  clear h1 q0 hw1
  rintro e w2 ⟨rfl, h2⟩
  have q1 := k1.out w2 h2.bel
  have hS0 : Box (BW w 64 b (n8I n :: (P.take 0).map idI) w2) := ⟨h2⟩
  clear h2
  go_wp2_with fail
  clear q1 hb
  go_loopw [19] (fun v19 wr => ∃ i : Nat, i ≤ m ∧ v19 = .int .i64 (i : Int) ∧ Box (BW w 64 b (n8I n :: (P.take i).map idI) wr)) (fun v19 _ => m - (intOf v19).toNat)
  case atStart => exact ⟨0, by omega, rfl, hS0⟩
  case round =>
    clear hS0
    obtain ⟨i, hi, rfl, hS⟩ := hrel
    by_cases hlt : i < m
    · have hii : (i : Int) < (m : Int) := by omega
      obtain ⟨blk, off, rfl, hblk, hcell⟩ := hPA.out.at_ (by omega)
      have hcl : wr.cell? ⟨blk, off + i, none⟩ = some (.string (P.getD i ByteArray.empty)) := by rw [hS.out.bel.cell (p := ⟨blk, off + i, none⟩) hblk, hcell i hlt]
      have h1 := bw_hash (P.getD i ByteArray.empty) hS.out (by simp; omega)
      rw [List.cons_append, ← hit.out i hlt] at h1
      obtain ⟨x, hx⟩ : ∃ x, P.getD i ByteArray.empty = x := ⟨_, rfl⟩
      rw [hx] at hcl h1
      clear hS hcell hblk hx
      go_wp2_with fail
      refine h1.mono ?_
      clear h1
      rintro e w3 ⟨rfl, hS⟩
      replace hS := Box.mk hS
      go_wp2_with fail
      exact ⟨⟨i + 1, by omega, by go_num, hS⟩, by simp [intOf]; omega⟩
    · obtain rfl : i = m := by omega
      have hnl : ¬ (i : Int) < (i : Int) := by omega
      rw [hlast.out] at hS
      have h1 := bw_bytes hS.out
      have hfin := Box.mk hS.out.bel
      rw [show n8I (n : Int) :: P.map idI = spI n P from rfl] at h1
      obtain ⟨T, hT⟩ : ∃ T, ansT (spI n P) = T := ⟨_, rfl⟩
      obtain ⟨E, hE⟩ : ∃ E, ansE (spI n P) = E := ⟨_, rfl⟩
      rw [hT, hE] at h1
      replace hT := Box.mk hT
      replace hE := Box.mk hE
      clear hS
      go_wp2_with fail
      refine h1.mono ?_
      clear h1
      rintro e w3 ⟨rfl, rfl⟩
      go_wp2_with fail
      go_returns
      exact ⟨by rw [hT.out, hE.out]; rfl, hfin.out⟩
set_option maxHeartbeats 1600000 in
set_option maxRecDepth 100000 in
theorem rsbytes_any (g n : Nat) (v : Value) (P : List ByteArray) (w : World) (h : SAt w 45 g n v P) (hl : P.length ≤ 64) (hn : n < 9223372036854775808) :
    Calls Tryd.prog 38 #[PtrS g] w (BytIs (spI n P) w) := by
  obtain ⟨a, c, rfl⟩ := h.row.shape
  have hg := h.lt
  have k0 : ∀ w', Below w.heap.size w w' → w'.cell? ⟨g, 0, none⟩ = some (.int .i64 (n : Int)) := fun w' hb => (hb.cell (p := ⟨g, 0, none⟩) hg).trans (h.blk.cell 0)
  have k1 : ∀ w', Below w.heap.size w w' → w'.cell? ⟨g, 1, none⟩ = some (.slice a P.length c) := fun w' hb => (hb.cell (p := ⟨g, 1, none⟩) hg).trans (h.blk.cell 1)
  have hPA := Box.mk (h.row.pa rfl)
  have hnew := BW.new w 83
  have hlast : Box (P.take P.length = P) := ⟨List.take_length⟩
  have hit := Box.mk (idI_take P)
  obtain ⟨m, hm⟩ : ∃ m, P.length = m := ⟨_, rfl⟩
  rw [hm] at k1 hPA hlast hit hl
  obtain ⟨w1, hw1⟩ : ∃ W, w.alloc (.cells #[.slice none 0 0, .bool false] 83) = W := ⟨_, rfl⟩
  rw [hw1] at hnew
  obtain ⟨b, hb⟩ : ∃ b, w.heap.size = b := ⟨_, rfl⟩
  rw [hb] at hnew
  have q0 := k0 w1 hnew.bel
  have h1 := xbw_number n hn hnew
  have hcap := hPA.out.cap
  have htop := hPA.out.top
  replace k0 := Box.mk k0
  replace k1 := Box.mk k1
  clear h hm hg hnew
  unfold PtrS
  go_enter Tryd.func38, Tryd.ntmps38
  go_wp2_with fail
  refine h1.mono ?_
  clear h1 q0 hw1
  rintro e w2 ⟨rfl, h2⟩
  have hS0 : Box (BW w 83 b (n8I n :: (P.take 0).map idI) w2) := ⟨h2⟩
  clear h2
  go_wp2_with fail
  clear hb
  go_loopw [5] (fun v5 wr => ∃ i : Nat, i ≤ m ∧ v5 = .int .i64 (i : Int) ∧ Box (BW w 83 b (n8I n :: (P.take i).map idI) wr)) (fun v5 _ => m - (intOf v5).toNat)
  case atStart => exact ⟨0, by omega, rfl, hS0⟩
  case round =>
    clear hS0
    obtain ⟨i, hi, rfl, hS⟩ := hrel
    have q1 := k1.out wr hS.out.bel
    by_cases hlt : i < m
    · have hii : (i : Int) < (m : Int) := by omega
      obtain ⟨blk, off, rfl, hblk, hcell⟩ := hPA.out.at_ (by omega)
      have hcl : wr.cell? ⟨blk, off + i, none⟩ = some (.string (P.getD i ByteArray.empty)) := by rw [hS.out.bel.cell (p := ⟨blk, off + i, none⟩) hblk, hcell i hlt]
      have h1 := xbw_hash (P.getD i ByteArray.empty) hS.out (by simp; omega)
      rw [List.cons_append, ← hit.out i hlt] at h1
      obtain ⟨x, hx⟩ : ∃ x, P.getD i ByteArray.empty = x := ⟨_, rfl⟩
      rw [hx] at hcl h1
      clear hS hcell hblk hx
      go_wp2_with fail
      refine h1.mono ?_
      clear h1
      rintro e w3 ⟨rfl, hS⟩
      replace hS := Box.mk hS
      go_wp2_with fail
      exact ⟨⟨i + 1, by omega, by go_num, hS⟩, by simp [intOf]; omega⟩
    · obtain rfl : i = m := by omega
      have hnl : ¬ (i : Int) < (i : Int) := by omega
      rw [hlast.out] at hS
      have h1 := xbw_bytes hS.out
      have hfin := Box.mk hS.out.bel
      rw [show n8I (n : Int) :: P.map idI = spI n P from rfl] at h1
      obtain ⟨T, hT⟩ : ∃ T, ansT (spI n P) = T := ⟨_, rfl⟩
      obtain ⟨E, hE⟩ : ∃ E, ansE (spI n P) = E := ⟨_, rfl⟩
      rw [hT, hE] at h1
      replace hT := Box.mk hT
      replace hE := Box.mk hE
      clear hS
      go_wp2_with fail
      refine h1.mono ?_
      clear h1
      rintro e w3 ⟨rfl, rfl⟩
      go_wp2_with fail
      go_returns
      exact ⟨by rw [hT.out, hE.out]; rfl, hfin.out⟩
end Go.Proofs.YtakmlbnjgkfaiaaDoor

namespace Go.Proofs.YtakmlbnjgkfaiaaDoor
open Go Go.RowKit

/-- So many hashes read. -/
def hsR : Nat → List UInt8 → Int → List ByteArray × List UInt8 × Int
  | 0, l, e => ([], l, e)
  | k + 1, l, e => ((hsR k l e).1 ++ [Pk.btx (Pk.rawR 32 (hsR k l e).2.1 (hsR k l e).2.2).1], (Pk.rawR 32 (hsR k l e).2.1 (hsR k l e).2.2).2.1, (Pk.rawR 32 (hsR k l e).2.1 (hsR k l e).2.2).2.2)
theorem hsR_len : ∀ (k : Nat) (l : List UInt8) (e : Int), (hsR k l e).1.length = k
  | 0, _, _ => rfl
  | k + 1, l, e => by
    show ((hsR k l e).1 ++ [_]).length = k + 1
    rw [List.length_append, hsR_len k l e]; rfl
theorem hsR_size : ∀ (k : Nat) (l : List UInt8) (e : Int), ∀ x ∈ (hsR k l e).1, x.size ≤ 32
  | 0, _, _, x, h => by cases h
  | k + 1, l, e, x, h => by
    rcases List.mem_append.1 (show x ∈ (hsR k l e).1 ++ [_] from h) with h | h
    · exact hsR_size k l e x h
    · rw [List.mem_singleton.1 h, Pk.mk_size]
      unfold Pk.rawR
      split
      · simp
      · split
        · simp
        · split
          · simp
          · rw [List.length_take]; omega
/-- A count of eight bytes. -/
theorem num8 (l : List UInt8) (e : Int) : ∃ n : Nat, (Pk.numR 8 l e).1 = (n : Int) ∧ n < 9223372036854775808 := by
  unfold Pk.numR
  split
  · exact ⟨0, rfl, by decide⟩
  · split
    · exact ⟨0, rfl, by decide⟩
    · split
      · exact ⟨0, rfl, by decide⟩
      · exact ⟨_, rfl, by omega⟩
/-- What is read: the number, the hashes, the error at the end. -/
def rdN (l : List UInt8) : Nat := (Pk.numR 8 l 0).1.toNat
def rdH (l : List UInt8) : List ByteArray × List UInt8 × Int := hsR (pcN (rdN l)) (Pk.numR 8 l 0).2.1 (Pk.numR 8 l 0).2.2
def rdE (l : List UInt8) : Int := Pk.endE (rdH l).2.1 (rdH l).2.2
theorem rdN_lt (l : List UInt8) : rdN l < 9223372036854775808 := by
  obtain ⟨n, hn, hlt⟩ := num8 l 0
  unfold rdN
  rw [hn]; omega
theorem rdN_eq (l : List UInt8) : (Pk.numR 8 l 0).1 = (rdN l : Int) := by
  obtain ⟨n, hn, hlt⟩ := num8 l 0
  unfold rdN
  rw [hn]; omega
theorem rdH_len (l : List UInt8) : (rdH l).1.length = pcN (rdN l) := hsR_len _ _ _
theorem rdH_fit (l : List UInt8) : Fit (rdH l).1 := fun x hx => by have := hsR_size _ _ _ x hx; omega
/-- What Read answers. -/
def RdIs (t : TypeId) (l : List UInt8) (w : World) (e : Ending) (w' : World) : Prop :=
  (rdE l = 0 → ∃ g, e = .returned (.tuple #[PtrS g, .int .i64 0]) ∧ SNew w t g (rdN l) (rdH l).1 w') ∧ (rdE l ≠ 0 → e = .returned (.tuple #[.pointer none, .int .i64 (rdE l)]) ∧ Below w.heap.size w w')
theorem chg0 {S : Nat → Prop} {w w' : World} (h : Below w.heap.size w w') : Pk.Chg S w w' := (Pk.Chg.of_below h).mono fun i hi e => absurd hi (by omega)
theorem row_put {w : World} {e : TypeId} {size g n c : Nat} {xs : List Value} (h : Pk.Row w e size (.slice (some ⟨g, 0, none⟩) n c) n xs) (j : Nat) (u : Value) : Pk.Row (w.setCell ⟨g, j, none⟩ u) e size (.slice (some ⟨g, 0, none⟩) n c) n (xs.set j u) := by
  obtain ⟨hx, ⟨h0, _⟩ | ⟨g2, cap, cur, e1, b1, hg, k1, k2, k3, k4⟩⟩ := h
  · cases h0
  · cases e1
    refine ⟨by rw [List.length_set]; exact hx, .inr ⟨g, c, cur.setIfInBounds j u, rfl, b1, heap_setCell_same w g j cur e u hg, k1, k2, by simpa using k3, ?_⟩⟩
    rw [Array.toList_setIfInBounds, List.take_set, k4]
theorem row_free {w : World} {e : TypeId} {size g n c : Nat} {xs : List Value} (h : Pk.Row w e size (.slice (some ⟨g, 0, none⟩) n c) n xs) (j : Nat) : w.frozen? ⟨g, j, none⟩ = false := by
  obtain ⟨_, ⟨h0, _⟩ | ⟨g2, cap, cur, e1, b1, hg, _⟩⟩ := h
  · cases h0
  · cases e1
    exact frozen_of_row w g j cur _ hg
/-- A row of texts that was made, whatever stands in it; the reader beside. -/
structure RdP (w0 : World) (b g n : Nat) (xs : List Value) (l : List UInt8) (er : Int) (w' : World) : Prop where
  row : Pk.Row w' 9 1 (.slice (some ⟨g, 0, none⟩) n n) n xs
  own : w0.heap.size ≤ g
  at_ : Pk.RAt w' b 88 l er
  bb : w0.heap.size ≤ b
  ne : g ≠ b
  bel : Below w0.heap.size w0 w'
theorem RdP.next {w0 w1 w2 : World} {b g n : Nat} {xs : List Value} {l l2 : List UInt8} {er er2 : Int} (h : RdP w0 b g n xs l er w1) (hn : Pk.RNext w1 b 88 l2 er2 w2) : RdP w0 b g n xs l2 er2 w2 :=
  ⟨h.row.chg hn.chg fun k hk ee => h.ne (by have hk2 : g = k := (by simpa [Value.ownBlock] using hk); exact hk2.trans ee), h.own, hn.at_, h.bb, h.ne, h.bel.trans (hn.chg.below h.bel.size fun _ hi => hi ▸ h.bb)⟩
theorem RdP.put {w0 w1 : World} {b g n : Nat} {xs : List Value} {l : List UInt8} {er : Int} (h : RdP w0 b g n xs l er w1) (j : Nat) (u : Value) : RdP w0 b g n (xs.set j u) l er (w1.setCell ⟨g, j, none⟩ u) :=
  ⟨row_put h.row j u, h.own, ((Pk.Chg.refl (fun i => i = g) w1).setCell (p := ⟨g, j, none⟩) rfl u).blk h.at_ fun e => h.ne e.symm, h.bb, h.ne, h.bel.trans (((Pk.Chg.refl (fun i => i = g) w1).setCell (p := ⟨g, j, none⟩) rfl u).below h.bel.size fun _ hi => hi ▸ h.own)⟩
theorem set_one (a r : List Value) (x u : Value) (j : Nat) (hj : a.length = j) : (a ++ (u :: r)).set j x = a ++ [x] ++ r := by
  subst hj
  simp
set_option maxHeartbeats 1600000 in
set_option maxRecDepth 100000 in
theorem sread_any (s : ByteArray) (w : World) :
    Calls Tryd.prog 23 #[.string s] w (RdIs 25 s.data.toList w) := by
  have h1 := Pk.read_new s w
  obtain ⟨l, hl⟩ : ∃ l, s.data.toList = l := ⟨_, rfl⟩
  rw [hl] at h1 ⊢
  obtain ⟨i0, hi0, hz0, hz1, hz2⟩ := info_parts info_s
  have hH := Box.mk (And.intro hi0 (And.intro hz0 (And.intro hz1 hz2)))
  have hn := rdN_eq l
  have hlt := rdN_lt l
  have hlen := Box.mk (rdH_len l)
  have hHd : Box (rdH l = hsR (pcN (rdN l)) (Pk.numR 8 l 0).2.1 (Pk.numR 8 l 0).2.2) := ⟨rfl⟩
  have hEd : Box (rdE l = Pk.endE (rdH l).2.1 (rdH l).2.2) := ⟨rfl⟩
  have hF := fun w' h => Pk.reight_any w.heap.size l 0 w' h
  have hW := fun w' => powers_any (rdN l) hlt w'
  rw [hn] at hF
  have h63 := pcN_le 63 (rdN l) hlt
  obtain ⟨m, hm⟩ : ∃ m, (Pk.numR 8 l 0).2.1 = m := ⟨_, rfl⟩
  obtain ⟨f, hf⟩ : ∃ f, (Pk.numR 8 l 0).2.2 = f := ⟨_, rfl⟩
  rw [hm, hf] at hF hHd
  obtain ⟨n, hne⟩ : ∃ n, rdN l = n := ⟨_, rfl⟩
  rw [hne] at hF hW h63 hHd hlen hlt
  obtain ⟨p, hp⟩ : ∃ p, pcN n = p := ⟨_, rfl⟩
  rw [hp] at hW h63 hHd hlen
  obtain ⟨b, hb⟩ : ∃ b, w.heap.size = b := ⟨_, rfl⟩
  rw [hb] at h1 hF
  replace hF := Box.mk hF
  replace hW := Box.mk hW
  replace hne := Box.mk hne
  replace hp := Box.mk hp
  replace hb := Box.mk hb
  clear hl hn hm hf hi0 hz0 hz1 hz2
  go_enter Tryd.func23, Tryd.ntmps23
  go_wp2_with fail
  refine h1.mono ?_
  clear h1
  rintro e w1 ⟨rfl, hR1, hb1⟩
  have h1 := hF.out w1 hR1
  replace hb1 := Box.mk hb1
  clear hR1 hF
  go_wp2_with fail
  refine h1.mono ?_
  clear h1
  rintro e w2 ⟨rfl, hR2⟩
  have h1 := hW.out w2
  have hb2 := Box.mk (hb1.out.trans (hR2.chg.below (by rw [← hb.out]; exact hb1.out.size) fun i hi => by rw [hi]; exact Nat.le_refl _))
  have hR2 := Box.mk hR2.at_
  clear hW
  go_wp2_with fail
  refine h1.mono ?_
  clear h1
  rintro e w3 ⟨rfl, rfl⟩
  go_wp2_with (at_make; refine wpList_make_full _ rfl (.tmp 14) (.tmp 14) 22 rfl 0 9 i0 (.string ⟨#[]⟩) 1 Tryd.underlying22 hH.out.1 hH.out.2.1 hH.out.2.2.1 .i64 .i64 _ _ p rfl rfl rfl rfl (by rw [hH.out.2.2.2]; omega) (by unfold maxLen; omega) (Nat.zero_le _) ?_; intro w4 hown hg; replace hown := Box.mk hown; replace hg := Box.mk hg)
  have hb4 : Below w2.heap.size w2 w4 := ⟨hg.out.os, hg.out.tape, hg.out.output, hg.out.size, fun k hk => hg.out.block k hk (by simp)⟩
  obtain ⟨g, hge⟩ : ∃ g, w2.heap.size = g := ⟨_, rfl⟩
  have hA0 : Box (∃ rest, rest.length = p - 0 ∧ RdP w b g p ((hsR 0 m f).1.map Value.string ++ rest) (hsR 0 m f).2.1 (hsR 0 m f).2.2 w4) := ⟨by
    have hr := hown.out
    rw [hge] at hr
    have hlb : b < w2.heap.size := Pk.Blk.lt hR2.out
    refine ⟨_, by simpa using hr.1, hr, ?_, (chg0 (S := fun _ => False) hb4).blk hR2.out fun h => h, by rw [hb.out]; exact Nat.le_refl _, by omega, ?_⟩
    · rw [hb.out]; omega
    · rw [hb.out]; exact hb2.out.trans (hb4.mono (by omega))⟩
  rw [hge]
  clear hown hg hb4 hb1 hb2 hR2 hge hH
  go_wp2_with fail
  go_loopw [18] (fun q wr => ∃ i : Nat, i ≤ p ∧ q = .int .i64 (i : Int) ∧ Box (∃ rest, rest.length = p - i ∧ RdP w b g p ((hsR i m f).1.map Value.string ++ rest) (hsR i m f).2.1 (hsR i m f).2.2 wr)) (fun q _ => p - (intOf q).toNat)
  case atStart => exact ⟨0, by omega, rfl, hA0⟩
  case round =>
    clear hA0
    obtain ⟨i, hi, rfl, hA⟩ := hrel
    by_cases hlt : i < p
    · obtain ⟨rest, hrl, hA1⟩ := hA.out
      have hsl := hsR_len i m f
      obtain ⟨R, hR⟩ : ∃ R, hsR i m f = R := ⟨_, rfl⟩
      have hnx : hsR (i + 1) m f = (R.1 ++ [Pk.btx (Pk.rawR 32 R.2.1 R.2.2).1], (Pk.rawR 32 R.2.1 R.2.2).2.1, (Pk.rawR 32 R.2.1 R.2.2).2.2) := by rw [← hR]; rfl
      rw [hR] at hA1 hsl
      obtain ⟨u, rest2, rfl⟩ : ∃ u r2, rest = u :: r2 := by
        match rest, hrl with
        | [], h => simp at h; omega
        | u :: r2, _ => exact ⟨u, r2, rfl⟩
      have hrl2 : Box (rest2.length = p - (i + 1)) := ⟨by simp at hrl; omega⟩
      have hcl : (R.1.map Value.string).length = i := by rw [List.length_map, hsl]
      have hg1 : (R.1.map Value.string ++ u :: rest2)[i]? = some u := by rw [List.getElem?_append_right (by omega), hcl]; simp
      have h1 := Pk.rhash_any b R.2.1 R.2.2 wr hA1.at_
      obtain ⟨X, hX⟩ : ∃ X, Pk.rawR 32 R.2.1 R.2.2 = X := ⟨_, rfl⟩
      rw [hX] at h1 hnx
      obtain ⟨x, hx⟩ : ∃ x, Pk.btx X.1 = x := ⟨_, rfl⟩
      rw [hx] at h1 hnx
      have hnxB := Box.mk hnx
      have hg1B := Box.mk hg1
      have hclB := Box.mk hcl
      have hA1B := Box.mk hA1
      have hii : (i : Int) < (p : Int) := by omega
      clear hA hR hnx hX hsl hrl hcl hg1 hA1 hx
      go_wp2_with fail
      refine h1.mono ?_
      clear h1
      rintro r w5 ⟨rfl, h5⟩
      have hA5 := hA1B.out.next h5
      have k1 := hA5.row.cells _ _ hg1B.out
      have g1 := row_free hA5.row i
      have hA6 := hA5.put i (.string x)
      rw [set_one _ _ _ _ _ hclB.out] at hA6
      obtain ⟨w6, hw6⟩ : ∃ w6, w5.setCell ⟨g, i, none⟩ (.string x) = w6 := ⟨_, rfl⟩
      rw [hw6] at hA6
      have hA8 : Box (∃ rest, rest.length = p - (i + 1) ∧ RdP w b g p ((hsR (i + 1) m f).1.map Value.string ++ rest) (hsR (i + 1) m f).2.1 (hsR (i + 1) m f).2.2 w6) := ⟨rest2, hrl2.out, by rw [hnxB.out]; simpa using hA6⟩
      clear h5 hA5 hA6 hA1B
      go_wp2_with fail
      exact ⟨⟨i + 1, by omega, by go_num, hA8⟩, by simp [intOf]; omega⟩
    · obtain rfl : i = p := by omega
      have hnl : ¬ (i : Int) < (i : Int) := by omega
      rw [← hHd.out] at hA
      obtain ⟨rest, hrl, hA1⟩ := hA.out
      obtain rfl : rest = [] := List.length_eq_zero_iff.1 (by rw [hrl]; simp)
      rw [List.append_nil] at hA1
      have h1 := Pk.end_any b (rdH l).2.1 (rdH l).2.2 wr hA1.at_
      rw [← hEd.out] at h1
      replace hA1 := Box.mk hA1
      by_cases he : rdE l = 0
      · rw [he] at h1
        replace he := Box.mk he
        clear hi hlt hA hrl hHd hEd
        go_wp2_with fail
        refine h1.mono ?_
        clear h1
        rintro r w9 ⟨rfl, h9⟩
        have hA9 := Box.mk (hA1.out.next h9)
        clear h9 hA1
        go_wp2_with fail
        go_returns
        refine ⟨fun _ => ⟨w9.heap.size, rfl, ?_⟩, fun hx => absurd he.out hx⟩
        rw [hne.out]
        refine SNew.box (TxR.of_row ?_ fun k hk => ?_) hA9.out.bel (by rw [hp.out]; exact hlen.out)
        · rw [hlen.out]; exact hA9.out.row
        · cases hk; exact hA9.out.own
      · obtain ⟨E, hE⟩ : ∃ E, rdE l = E := ⟨_, rfl⟩
        rw [hE] at h1 he
        have hne0 : (E != 0) = true := by simpa using he
        replace he := Box.mk he
        replace hE := Box.mk hE
        clear hi hlt hA hrl hHd hEd
        go_wp2_with fail
        refine h1.mono ?_
        clear h1
        rintro r w9 ⟨rfl, h9⟩
        have hA9 := Box.mk (hA1.out.next h9)
        clear h9 hA1
        go_wp2_with fail
        go_returns
        exact ⟨fun hx => absurd (hE.out.symm.trans hx) he.out, fun _ => ⟨by rw [hE.out]; rfl, hA9.out.bel⟩⟩
/-- In the document's loop: the span that is being made, and the reader beside. -/
structure RdD (w0 : World) (b g n : Nat) (v : Value) (P : List ByteArray) (l : List UInt8) (er : Int) (w : World) : Prop where
  blk : Pk.Blk w g [.int .i64 (n : Int), v] 45
  row : TxR w0.heap.size w v P
  at_ : Pk.RAt w b 91 l er
  gb : w0.heap.size ≤ g
  bb : w0.heap.size ≤ b
  ne : g ≠ b
  bel : Below w0.heap.size w0 w
theorem RdD.vg {w0 w : World} {b g n : Nat} {v : Value} {P : List ByteArray} {l : List UInt8} {er : Int} (h : RdD w0 b g n v P l er w) : v.ownBlock ≠ some g := Pk.Row.apart (h.row.base (Nat.zero_le _)) h.blk (by decide)
theorem RdD.vb {w0 w : World} {b g n : Nat} {v : Value} {P : List ByteArray} {l : List UInt8} {er : Int} (h : RdD w0 b g n v P l er w) : v.ownBlock ≠ some b := Pk.Row.apart (h.row.base (Nat.zero_le _)) (show Pk.Blk w b _ _ from h.at_) (by decide)
theorem RdD.next {w0 w w2 : World} {b g n : Nat} {v : Value} {P : List ByteArray} {l l2 : List UInt8} {er er2 : Int} (h : RdD w0 b g n v P l er w) (hn : Pk.RNext w b 91 l2 er2 w2) : RdD w0 b g n v P l2 er2 w2 :=
  ⟨hn.chg.blk h.blk h.ne, h.row.chg hn.chg fun k hk e => h.vb (by rw [hk, e]), hn.at_, h.gb, h.bb, h.ne, h.bel.trans (hn.chg.below h.bel.size fun _ hi => hi ▸ h.bb)⟩
theorem RdD.here {w0 w w2 : World} {b g n : Nat} {v : Value} {P : List ByteArray} {l : List UInt8} {er : Int} (h : RdD w0 b g n v P l er w) (hb : Below w.heap.size w w2) : RdD w0 b g n v P l er w2 :=
  ⟨(chg0 (S := fun _ => False) hb).blk h.blk fun h => h, h.row.here hb, (chg0 (S := fun _ => False) hb).blk h.at_ fun h => h, h.gb, h.bb, h.ne, mono_bel h.bel hb (Nat.le_refl _)⟩
/-- Behind the append, ahead of its store. -/
structure RdE (w0 : World) (b g n : Nat) (v v' : Value) (P : List ByteArray) (l : List UInt8) (er : Int) (w : World) : Prop where
  blk : Pk.Blk w g [.int .i64 (n : Int), v] 45
  out : RdD w0 b g n v' P l er (w.setCell ⟨g, 1, none⟩ v')
theorem RdD.push {w0 w w2 : World} {b g n : Nat} {v v' : Value} {P P' : List ByteArray} {l : List UInt8} {er : Int} (h : RdD w0 b g n v P l er w) (hp : PushedT w0.heap.size w v P' v' w2) : RdE w0 b g n v v' P' l er w2 := by
  have hg2 : Pk.Blk w2 g [.int .i64 (n : Int), v] 45 := hp.chg.blk h.blk fun e => h.vg e
  have hb2 : Pk.RAt w2 b 91 l er := hp.chg.blk h.at_ fun e => h.vb e
  have hv2 : v'.ownBlock ≠ some g := Pk.Row.apart (hp.row.base (Nat.zero_le _)) hg2 (by decide)
  have hc : Pk.Chg (fun i => i = g) w2 (w2.setCell ⟨g, 1, none⟩ v') := (Pk.Chg.refl (fun i => i = g) w2).setCell (p := ⟨g, 1, none⟩) rfl v'
  have hbel : Below w0.heap.size w0 w2 := hp.bel h.bel h.row
  exact ⟨hg2, hg2.setCell 1 v', hp.row.chg hc fun k hk e => hv2 (by rw [hk, e]), hc.blk hb2 fun e => h.ne e.symm, h.gb, h.bb, h.ne, hbel.trans (hc.below hbel.size fun _ hi => hi ▸ h.gb)⟩
theorem RdD.new {w0 w : World} {b g n : Nat} {v : Value} {P : List ByteArray} {l : List UInt8} {er : Int} (h : RdD w0 b g n v P l er w) (hl : P.length = pcN n) : SNew w0 45 g n P w :=
  ⟨v, ⟨h.blk, h.row.base (Nat.zero_le _), hl⟩, h.gb, fun k hk => (h.row.own k hk).1, h.bel⟩
set_option maxHeartbeats 3200000 in
set_option maxRecDepth 100000 in
theorem rsread_any (s : ByteArray) (w : World) :
    Calls Tryd.prog 24 #[.string s] w (RdIs 45 s.data.toList w) := by
  have h1 := Pk.xread_new s w
  obtain ⟨l, hl⟩ : ∃ l, s.data.toList = l := ⟨_, rfl⟩
  rw [hl] at h1 ⊢
  have hn := rdN_eq l
  have hlt := rdN_lt l
  have hlen := Box.mk (rdH_len l)
  have hHd : Box (rdH l = hsR (pcN (rdN l)) (Pk.numR 8 l 0).2.1 (Pk.numR 8 l 0).2.2) := ⟨rfl⟩
  have hEd : Box (rdE l = Pk.endE (rdH l).2.1 (rdH l).2.2) := ⟨rfl⟩
  have hF := fun w' h => Pk.xnumber_any w.heap.size l 0 8 w' h (by omega)
  have hW := fun w' => rpowers_any (rdN l) hlt w'
  rw [hn] at hF
  have h63 := pcN_le 63 (rdN l) hlt
  obtain ⟨m, hm⟩ : ∃ m, (Pk.numR 8 l 0).2.1 = m := ⟨_, rfl⟩
  obtain ⟨f, hf⟩ : ∃ f, (Pk.numR 8 l 0).2.2 = f := ⟨_, rfl⟩
  rw [hm, hf] at hF hHd
  obtain ⟨n, hne⟩ : ∃ n, rdN l = n := ⟨_, rfl⟩
  rw [hne] at hF hW h63 hHd hlen hlt
  obtain ⟨p, hp⟩ : ∃ p, pcN n = p := ⟨_, rfl⟩
  rw [hp] at hW h63 hHd hlen
  obtain ⟨b, hb⟩ : ∃ b, w.heap.size = b := ⟨_, rfl⟩
  rw [hb] at h1 hF
  replace hF := Box.mk hF
  replace hW := Box.mk hW
  replace hne := Box.mk hne
  replace hp := Box.mk hp
  replace hb := Box.mk hb
  clear hl hn hm hf
  go_enter Tryd.func24, Tryd.ntmps24
  go_wp2_with fail
  refine h1.mono ?_
  clear h1
  rintro e w1 ⟨rfl, hR1, hb1⟩
  have h1 := hF.out w1 hR1
  replace hb1 := Box.mk hb1
  clear hR1 hF
  go_wp2_with fail
  refine h1.mono ?_
  clear h1
  rintro e w2 ⟨rfl, hR2⟩
  have hb2 := Box.mk (hb1.out.trans (hR2.chg.below (by rw [← hb.out]; exact hb1.out.size) fun i hi => by rw [hi]; exact Nat.le_refl _))
  have hR2 := Box.mk hR2.at_
  obtain ⟨g, hge⟩ : ∃ g, w2.heap.size = g := ⟨_, rfl⟩
  obtain ⟨w3, hw3⟩ : ∃ W, w2.alloc (.cells #[.int .i64 (n : Int), .slice none 0 0] 45) = W := ⟨_, rfl⟩
  have hA0 : Box (RdD w b g n (.slice none 0 0) (hsR 0 m f).1 (hsR 0 m f).2.1 (hsR 0 m f).2.2 w3) := ⟨by
    have hlb : b < w2.heap.size := Pk.Blk.lt hR2.out
    have hbw : Below w.heap.size w w2 := by rw [hb.out]; exact hb2.out
    have h0 := hbw.size
    rw [← hw3, ← hge]
    exact ⟨Pk.Blk.new w2 [.int .i64 (n : Int), .slice none 0 0] _, TxR.nil _ _, (chg0 (S := fun _ => False) (bel_alloc w2 _)).blk hR2.out fun h => h, h0, by rw [hb.out]; exact Nat.le_refl _, by omega, mono_bel hbw (bel_alloc _ _) (Nat.le_refl _)⟩⟩
  have q0 : w3.cell? ⟨g, 0, none⟩ = some (.int .i64 (n : Int)) := hA0.out.blk.cell 0
  have h1 := hW.out w3
  clear hb1 hb2 hR2 hW
  go_wp2_with fail
  refine h1.mono ?_
  clear h1 q0 hw3 hge
  rintro e w4 ⟨rfl, rfl⟩
  go_wp2_with fail
  replace hA0 : Box (∃ v, RdD w b g n v (hsR 0 m f).1 (hsR 0 m f).2.1 (hsR 0 m f).2.2 w3) := ⟨⟨_, hA0.out⟩⟩
  go_loopw [6] (fun q wr => ∃ i k : Nat, i + k = p ∧ q = .int .i64 (k : Int) ∧ Box (∃ v, RdD w b g n v (hsR i m f).1 (hsR i m f).2.1 (hsR i m f).2.2 wr)) (fun q _ => (intOf q).toNat)
  case atStart => exact ⟨0, p, by omega, rfl, hA0⟩
  case round =>
    clear hA0
    obtain ⟨i, k, hik, rfl, hA⟩ := hrel
    obtain ⟨v, hA1⟩ := hA.out
    obtain ⟨a, c, rfl⟩ := hA1.row.shape
    have hsl := hsR_len i m f
    by_cases hlt : 0 < k
    · obtain ⟨R, hR⟩ : ∃ R, hsR i m f = R := ⟨_, rfl⟩
      have hnx : hsR (i + 1) m f = (R.1 ++ [Pk.btx (Pk.rawR 32 R.2.1 R.2.2).1], (Pk.rawR 32 R.2.1 R.2.2).2.1, (Pk.rawR 32 R.2.1 R.2.2).2.2) := by rw [← hR]; rfl
      rw [hR] at hA1 hsl
      rw [hsl] at hA1
      have hcall := Box.mk fun w' (hb : Below wr.heap.size wr w') => Pk.xraw_any b R.2.1 R.2.2 32 w' (hA1.here hb).at_
      obtain ⟨X, hX⟩ : ∃ X, Pk.rawR 32 R.2.1 R.2.2 = X := ⟨_, rfl⟩
      rw [hX] at hcall hnx
      obtain ⟨x, hx⟩ : ∃ x, Pk.btx X.1 = x := ⟨_, rfl⟩
      rw [hx] at hcall hnx
      have kB : Box (∀ w', Below wr.heap.size wr w' → Pk.Blk w' g [.int .i64 (n : Int), .slice a i c] 45) := ⟨fun w' hb => (hA1.here hb).blk⟩
      have k1 : Box (∀ w', Pk.Blk w' g [.int .i64 (n : Int), .slice a i c] 45 → w'.cell? ⟨g, 1, none⟩ = some (.slice a i c)) := ⟨fun w' hb => hb.cell 1⟩
      replace hA1 := Box.mk hA1
      replace hnx := Box.mk hnx
      replace hsl := Box.mk hsl
      have hii : (k : Int) > 0 := by omega
      clear hA hR hX hx
      go_wp2_with fail
      refine region_steadyC (fun w' => Pk.Blk w' g [.int .i64 (n : Int), .slice a i c] 45) (fun w' => Below wr.heap.size wr w') (fun w w' => w = w') rfl (dB wr) ?_
      refine anyS_calms [0, 1, 2, 3, 4, 5] 6 rfl (fun _ => rfl) (st_eq kB.out) (by kernel_rfl) (by kernel_rfl) (by kernel_rfl) ?_
      simp [nth]
      try simp only [Act.put, List.setIfInBounds_toArray, List.set_cons_succ, List.set_cons_zero]
      repeat (go_big_quiet_step (first | exact fun _ => rfl | rfl))
      refine quiet_val rfl (.slice a i c) (fun w' hw' => by have h3 := k1.out w' hw'; go_simp) ?_
      simp only [Act.put, List.setIfInBounds_toArray, List.set_cons_succ, List.set_cons_zero]
      repeat (go_big_quiet_step (first | exact fun _ => rfl | rfl))
      refine wpQuiet_nil ?_
      refine anyS_forced 6 (by kernel_rfl) rfl rfl (fun wa hWa K hK => ?_)
      have hF := hcall.out wa hWa
      have hA2 := Box.mk (hA1.out.here hWa)
      go_simp
      refine hF.mono ?_
      rintro e wb ⟨rfl, hb⟩
      have hA3 := Box.mk (hA2.out.next hb)
      refine hK _ _ (fun w' => w' = wb) (st_eq fun w' e => e ▸ hA3.out.blk) rfl ?_
      clear hK K hF hWa hb hcall hA2 hA1
      refine anyS_forced 7 (by kernel_rfl) rfl rfl (fun wc hWc K hK => ?_)
      subst hWc
      have hz := Box.mk (parts_new wc [x] 9)
      have hA4 := Box.mk (hA3.out.here (bel_alloc wc (.cells #[.string x] 9)))
      go_simp
      refine hK _ _ (fun w' => w' = wc.alloc (.cells #[.string x] 9)) (st_eq fun w' e => e ▸ hA4.out.blk) rfl ?_
      clear hK K hA3
      refine anyS_forced 8 (by kernel_rfl) rfl rfl (fun wd hWd K hK => ?_)
      subst hWd
      refine wp_pushT (.tmp 27) (.tmp 30) rfl w.heap.size _ _ [x] rfl hA4.out.row hA4.out.bel.size (some ⟨wc.heap.size, 0, none⟩) 1 1 rfl rfl hz.out (by rw [hsl.out]; omega) ?_
      intro v' w5 hp5
      have hE := Box.mk (hA4.out.push hp5)
      refine hK _ _ (fun w' => w' = w5) (st_eq fun w' e => e ▸ hE.out.blk) rfl ?_
      clear hK K hp5 hz hA4
      refine anyS_calms [9, 10] 1 rfl (fun _ => rfl) (st_eq fun w' e => e ▸ hE.out.blk) (by kernel_rfl) (by kernel_rfl) (by kernel_rfl) ?_
      simp [nth]
      try simp only [Act.put, List.setIfInBounds_toArray, List.set_cons_succ, List.set_cons_zero]
      repeat (go_big_quiet_step (first | exact fun _ => rfl | rfl))
      refine wpQuiet_nil ?_
      refine anyS_last 11 (by kernel_rfl) rfl rfl (by kernel_rfl) (by kernel_rfl) (fun we hWe K hK => ?_)
      subst hWe
      have k5 := hE.out.blk.cell 1
      have f5 := hE.out.blk.free 1
      have hA6 := Box.mk hE.out.out
      obtain ⟨va, vc, rfl⟩ := hA6.out.row.shape
      rw [← show (hsR (i + 1) m f).1 = R.1 ++ [x] by rw [hnx.out], hsR_len] at hA6 ⊢
      have hS : Box (∃ v, RdD w b g n v (hsR (i + 1) m f).1 (hsR (i + 1) m f).2.1 (hsR (i + 1) m f).2.2 (we.setCell ⟨g, 1, none⟩ (.slice va (i + 1) vc))) := ⟨⟨_, by
        have h2 : (hsR (i + 1) m f).2 = X.2 := by rw [hnx.out]
        rw [h2]; exact hA6.out⟩⟩
      obtain ⟨W5, hW5⟩ : ∃ W, we.setCell ⟨g, 1, none⟩ (.slice va (i + 1) vc) = W := ⟨_, rfl⟩
      rw [hW5] at hS
      simp only [List.getElem?_cons_zero, List.getElem?_cons_succ] at k5
      go_simp
      refine hK _ _ ?_
      clear hK K k5 f5 hE hA6
      obtain ⟨q, rfl⟩ : ∃ q, k = q + 1 := ⟨k - 1, by omega⟩
      go_wp2_with fail
      exact ⟨⟨i + 1, q, by omega, by go_num, hS⟩, by simp [intOf]⟩
    · obtain rfl : k = 0 := by omega
      obtain rfl : i = p := by omega
      have hnl : ¬ ((0 : Nat) : Int) > 0 := by omega
      rw [← hHd.out] at hA1 hsl
      have h1 := Pk.xend_any b (rdH l).2.1 (rdH l).2.2 wr hA1.at_
      rw [← hEd.out] at h1
      replace hA1 := Box.mk hA1
      by_cases he : rdE l = 0
      · rw [he] at h1
        replace he := Box.mk he
        clear hA hHd hEd hik hlt
        go_wp2_with fail
        refine h1.mono ?_
        clear h1
        rintro r w9 ⟨rfl, h9⟩
        have hA9 := Box.mk (hA1.out.next h9)
        clear h9 hA1
        go_wp2_with fail
        go_returns
        exact ⟨fun _ => ⟨g, rfl, by rw [hne.out]; exact hA9.out.new (by rw [hp.out]; exact hlen.out)⟩, fun hx => absurd he.out hx⟩
      · obtain ⟨E, hE⟩ : ∃ E, rdE l = E := ⟨_, rfl⟩
        rw [hE] at h1 he
        have hne0 : (E != 0) = true := by simpa using he
        replace he := Box.mk he
        replace hE := Box.mk hE
        clear hA hHd hEd hik hlt
        go_wp2_with fail
        refine h1.mono ?_
        clear h1
        rintro r w9 ⟨rfl, h9⟩
        have hA9 := Box.mk (hA1.out.next h9)
        clear h9 hA1
        go_wp2_with fail
        go_returns
        exact ⟨fun hx => absurd (hE.out.symm.trans hx) he.out, fun _ => ⟨by rw [hE.out]; rfl, hA9.out.bel⟩⟩
end Go.Proofs.YtakmlbnjgkfaiaaDoor

namespace Go.Proofs.YtakmlbnjgkfaiaaDoor
open Go Go.RowKit

theorem texS_same (l : List ByteArray) : texB l l = true := by simp [texB]
theorem TxR.put {B : Nat} {w : World} {g n c : Nat} {ids : List ByteArray} (h : TxR B w (.slice (some ⟨g, 0, none⟩) n c) ids) (hn : ids.length = n) (j : Nat) (x : ByteArray) : TxR B (w.setCell ⟨g, j, none⟩ (.string x)) (.slice (some ⟨g, 0, none⟩) n c) (ids.set j x) := by
  have hr : Pk.Row w 9 1 (.slice (some ⟨g, 0, none⟩) n c) n (ids.map Value.string) := by
    have := h.base (Nat.zero_le _)
    rw [← hn] at this ⊢
    exact this
  refine TxR.of_row ?_ fun k hk => (h.own k hk).1
  rw [List.length_set, hn, List.map_set]
  exact row_put hr j (.string x)
theorem TxR.some {B : Nat} {w : World} {a : Option Addr} {n c : Nat} {ids : List ByteArray} (h : TxR B w (.slice a n c) ids) (hn : 0 < n) (hl : ids.length = n) : ∃ g, a = Option.some ⟨g, 0, none⟩ ∧ B ≤ g ∧ ∀ j x, ids[j]? = Option.some x → w.cell? ⟨g, j, none⟩ = Option.some (.string x) ∧ w.frozen? ⟨g, j, none⟩ = false := by
  have hr : Pk.Row w 9 1 (.slice a n c) n (ids.map Value.string) := by
    have := h.base (Nat.zero_le _)
    rw [← hl] at this ⊢
    exact this
  have hr2 := hr
  obtain ⟨_, ⟨_, h0⟩ | ⟨g, cap, cur, e, _⟩⟩ := hr2
  · omega
  · cases e
    refine ⟨g, rfl, (h.own g rfl).1, fun j x hj => ⟨hr.cells _ _ (by simpa using hj), row_free hr j⟩⟩
/-- In the loop: the copy's row, whatever stands in it. -/
structure SpL (w0 : World) (v : Value) (m : Nat) (w : World) : Prop where
  out : ∃ ids : List ByteArray, ids.length = m ∧ TxR w0.heap.size w v ids
  bel : Below w0.heap.size w0 w
set_option maxHeartbeats 3200000 in
set_option maxRecDepth 100000 in
theorem lsame_any (g h n : Nat) (v u : Value) (P : List ByteArray) (w : World) (hS : SAt w 25 g n v P) (hD : SAt w 45 h n u P) (hK : KIs w) (hF : Fit P) (hn : n < 9223372036854775808) (hl : P.length ≤ 64) :
    Calls Tryd.prog 20 #[PtrS g, PtrS h] w fun e w' => e = .returned (.bool true) ∧ Below w.heap.size w w' := by
  obtain ⟨b, d, rfl⟩ := hD.row.shape
  have hKr := Box.mk fun w' (hb : Below w.heap.size w w') => hK.below hb hK.lt
  have hSz := Box.mk fun w' (hb : Below w.heap.size w w') => size_any g n v P w' (hS.here hb)
  have hRt := Box.mk fun w' (hb : Below w.heap.size w w') => sroot_any g n v P w' (hS.here hb) (hKr.out w' hb) hF hn
  have hDR := Box.mk fun w' (hb : Below w.heap.size w w') => rsroot_any h n _ P w' (hD.here hb) hF hl
  have hPk := Box.mk fun w' (hb : Below w.heap.size w w') => peaks_any g n v P w' (hS.here hb) hl
  have hBy := Box.mk fun w' (hb : Below w.heap.size w w') => sbytes_any g n v P w' (hS.here hb) hl
  have hDB := Box.mk fun w' (hb : Below w.heap.size w w') => rsbytes_any h n _ P w' (hD.here hb) hl hn
  have hDP := Box.mk fun w' (hb : Below w.heap.size w w') => (hD.here hb).row.parts
  have k0 := Box.mk fun w' (hb : Below w.heap.size w w') => (hD.here hb).blk.cell 0
  have k1 := Box.mk fun w' (hb : Below w.heap.size w w') => (hD.here hb).blk.cell 1
  simp only [List.getElem?_cons_zero, List.getElem?_cons_succ] at k0 k1
  have hlB := Box.mk hl
  obtain ⟨R, hR⟩ : ∃ R, foldP P = R := ⟨_, rfl⟩
  rw [hR] at hRt hDR
  obtain ⟨T, hT⟩ : ∃ T, ansT (spI n P) = T := ⟨_, rfl⟩
  obtain ⟨E, hE⟩ : ∃ E, ansE (spI n P) = E := ⟨_, rfl⟩
  unfold BytIs at hBy hDB
  rw [hT, hE] at hBy hDB
  obtain ⟨m, hm⟩ : ∃ m, P.length = m := ⟨_, rfl⟩
  rw [hm] at k1 hlB hDP
  unfold PtrS at hSz hRt hDR hPk hBy hDB
  unfold RowIs at hPk
  replace hm := Box.mk hm
  have h1 := hPk.out w (Below.refl _ _)
  clear hS hD hK hF hl hR hT hE
  unfold PtrS
  go_enter Tryd.func20, Tryd.ntmps20
  go_wp2_with fail
  refine h1.mono ?_
  clear h1
  rintro e w1 ⟨v1, rfl, hT1, hb1⟩
  obtain ⟨a1, c1, rfl⟩ := hT1.shape
  rw [hm.out] at hT1 ⊢
  replace hT1 := Box.mk hT1
  replace hb1 := Box.mk hb1
  have hST := Box.mk fun w' (hb : Below w1.heap.size w1 w') => same_any _ _ P P w' (hT1.out.here hb).parts (hDP.out w' (mono_bel hb1.out hb (Nat.le_refl _))) (by rw [hm.out]; unfold maxLen; have := hlB.out; omega)
  rw [texS_same] at hST
  go_wp2_with fail
  refine region_quiet (fun w' => Below w1.heap.size w1 w') (by kernel_rfl) (by kernel_rfl) (dB _) ?_
  have up : Box (∀ w', Below w1.heap.size w1 w' → Below w.heap.size w w') := ⟨fun w' hb => mono_bel hb1.out hb (Nat.le_refl _)⟩
  repeat (go_big_quiet_step (first | exact fun _ => rfl | rfl))
  refine quiet_call rfl (.int .i64 (n : Int)) (fun w' hw' => (hSz.out w' (up.out w' hw')).mono fun e w2 h => ⟨h.1, h.2 ▸ hw'⟩) (fun w' _ => by go_simp) ?_
  simp only [Act.put, List.setIfInBounds_toArray, List.set_cons_succ, List.set_cons_zero]
  repeat (go_big_quiet_step (first | exact fun _ => rfl | rfl))
  refine quiet_val rfl (.int .i64 (n : Int)) (fun w' hw' => by have h3 := k0.out w' (up.out w' hw'); go_simp) ?_
  simp only [Act.put, List.setIfInBounds_toArray, List.set_cons_succ, List.set_cons_zero]
  repeat (go_big_quiet_step (first | exact fun _ => rfl | rfl))
  refine quiet_val rfl (.slice b m d) (fun w' hw' => by have h3 := k1.out w' (up.out w' hw'); go_simp) ?_
  simp only [Act.put, List.setIfInBounds_toArray, List.set_cons_succ, List.set_cons_zero]
  repeat (go_big_quiet_step (first | exact fun _ => rfl | rfl))
  refine quiet_call rfl (.bool true) (fun w' hw' => bel_call (hST.out w' hw') hw') (fun w' _ => by go_simp) ?_
  simp only [Act.put, List.setIfInBounds_toArray, List.set_cons_succ, List.set_cons_zero]
  repeat (go_big_quiet_step (first | exact fun _ => rfl | rfl))
  refine quiet_call rfl (.string R) (fun w' hw' => bel_call (hRt.out w' (up.out w' hw')) hw') (fun w' _ => by go_simp) ?_
  simp only [Act.put, List.setIfInBounds_toArray, List.set_cons_succ, List.set_cons_zero]
  repeat (go_big_quiet_step (first | exact fun _ => rfl | rfl))
  refine quiet_call rfl (.string R) (fun w' hw' => bel_call (hDR.out w' (up.out w' hw')) hw') (fun w' _ => by go_simp) ?_
  simp only [Act.put, List.setIfInBounds_toArray, List.set_cons_succ, List.set_cons_zero]
  repeat (go_big_quiet_step (first | exact fun _ => rfl | rfl))
  refine wpQuiet_nil ?_
  clear hSz hRt hDR hST
  intro w2 hw2
  have hA0 : Box (SpL w (.slice a1 m c1) m w2) := ⟨⟨⟨P, hm.out, hT1.out.here hw2⟩, up.out w2 hw2⟩⟩
  clear hw2 up hT1 hb1
  have hm64 := hlB.out
  go_wp2_with fail
  go_loopw [38] (fun q wr => ∃ i : Nat, i ≤ m ∧ q = .int .i64 (i : Int) ∧ Box (SpL w (.slice a1 m c1) m wr)) (fun q _ => m - (intOf q).toNat)
  case atStart => exact ⟨0, by omega, rfl, hA0⟩
  case round =>
    clear hA0
    obtain ⟨i, hi, rfl, hA⟩ := hrel
    by_cases hlt : i < m
    · have hii : (i : Int) < (m : Int) := by omega
      obtain ⟨⟨ids, hil, hT1⟩, hb1⟩ := hA.out
      obtain ⟨g1, rfl, hg1, hc1⟩ := hT1.some (by omega) hil
      obtain ⟨x, hx⟩ : ∃ x, ids[i]? = some x := ⟨ids[i]'(by omega), List.getElem?_eq_getElem _⟩
      obtain ⟨q1, f1⟩ := hc1 i x hx
      have hA2 : Box (SpL w (.slice (some ⟨g1, 0, none⟩) m c1) m (wr.setCell ⟨g1, i, none⟩ (.string ⟨#[115, 112, 111, 105, 108, 116]⟩))) :=
        ⟨⟨⟨ids.set i ⟨#[115, 112, 111, 105, 108, 116]⟩, by rw [List.length_set]; exact hil, hT1.put hil i _⟩, hb1.trans (((Pk.Chg.refl (fun k => k = g1) wr).setCell (p := ⟨g1, i, none⟩) rfl _).below hb1.size fun _ hk => hk ▸ hg1)⟩⟩
      obtain ⟨w3, hw3⟩ : ∃ W, wr.setCell ⟨g1, i, none⟩ (.string ⟨#[115, 112, 111, 105, 108, 116]⟩) = W := ⟨_, rfl⟩
      rw [hw3] at hA2
      clear hA hT1 hb1 hc1 hx hg1 hil
      go_wp2_with fail
      exact ⟨⟨i + 1, by omega, by go_num, hA2⟩, by simp [intOf]; omega⟩
    · obtain rfl : i = m := by omega
      have hnl : ¬ (i : Int) < (i : Int) := by omega
      obtain ⟨⟨ids, hil, hT1⟩, hb1⟩ := hA.out
      replace hT1 := Box.mk hT1
      replace hb1 := Box.mk hb1
      replace hil := Box.mk hil
      clear hA
      go_wp2_with (at_builtin; refine wpList_pushT rfl (.tmp 45) (.tmp 46) rfl w.heap.size _ ids [(⟨#[109, 111, 114, 101]⟩ : ByteArray)] rfl (by have h := hT1.out; have hl := hil.out; exact h.here (bel_alloc _ _)) (by have := hb1.out.size; simp; omega) (some ⟨wr.heap.size, 0, none⟩) 1 1 rfl rfl (parts_new wr [(⟨#[109, 111, 114, 101]⟩ : ByteArray)] 9) (by rw [hil.out]; have := hlB.out; omega) ?_)
      rintro v4 w4 hp
      have hb4 := Box.mk (hp.bel (mono_bel hb1.out (bel_alloc _ _) (Nat.le_refl _)) (hT1.out.here (bel_alloc _ _)))
      have h1 := hBy.out w4 hb4.out
      clear hp hT1 hb1
      go_wp2_with fail
      refine h1.mono ?_
      clear h1
      rintro e w5 ⟨rfl, hb5⟩
      replace hb4 := Box.mk (mono_bel hb4.out hb5 (Nat.le_refl _))
      have h1 := hDB.out w5 hb4.out
      clear hb5
      go_wp2_with fail
      refine h1.mono ?_
      clear h1
      rintro e w6 ⟨rfl, hb6⟩
      replace hb4 := Box.mk (mono_bel hb4.out hb6 (Nat.le_refl _))
      clear hb6
      go_wp2_with fail
      have kB : Box (∀ w', Below w6.heap.size w6 w' → Below w.heap.size w w') := ⟨fun w' hb => mono_bel hb4.out hb (Nat.le_refl _)⟩
      refine region_steadyC (fun w' => Below w.heap.size w w') (fun w' => Below w6.heap.size w6 w') (fun w w' => w = w') rfl (dB w6) ?_
      refine anyS_calms [0, 1, 2, 3, 4, 5, 6, 7, 8, 9, 11, 12, 13, 14] 4 rfl (fun _ => rfl) (st_eq kB.out) (by kernel_rfl) (by kernel_rfl) (by kernel_rfl) ?_
      simp [nth]
      try simp only [Act.put, List.setIfInBounds_toArray, List.set_cons_succ, List.set_cons_zero]
      repeat (go_big_quiet_step (first | exact fun _ => rfl | rfl))
      refine quiet_val rfl (.slice b i d) (fun w' hw' => by have h3 := k1.out w' hw'; go_simp) ?_
      simp only [Act.put, List.setIfInBounds_toArray, List.set_cons_succ, List.set_cons_zero]
      repeat (go_big_quiet_step (first | exact fun _ => rfl | rfl))
      refine wpQuiet_nil ?_
      refine anyS_forced 10 (by kernel_rfl) rfl rfl (fun wa hWa K hK => ?_)
      have hF := hPk.out wa (kB.out wa hWa)
      go_simp
      refine hF.mono ?_
      rintro e wb ⟨vb, rfl, hTb, hbb⟩
      obtain ⟨ab, cb, rfl⟩ := hTb.shape
      have hb7 := Box.mk (mono_bel (kB.out wa hWa) hbb (Nat.le_refl _))
      have hF := Box.mk (same_any _ _ P P wb hTb.parts (hDP.out wb hb7.out) (by rw [hm.out]; unfold maxLen; omega))
      rw [texS_same] at hF
      rw [hm.out] at hF ⊢
      refine hK _ _ (fun w' => w' = wb) (st_eq fun w' e => e ▸ hb7.out) rfl ?_
      clear hK K hWa hTb hbb
      refine anyS_forced 15 (by kernel_rfl) rfl rfl (fun wc hWc K hK => ?_)
      subst hWc
      have hF := hF.out
      go_simp
      refine hF.mono ?_
      rintro e wd ⟨rfl, hbd⟩
      have hb8 := Box.mk (mono_bel hb7.out hbd (Nat.le_refl _))
      refine hK _ _ (fun w' => w' = wd) (st_eq fun w' e => e ▸ hb8.out) rfl ?_
      clear hK K hF hbd hb7
      refine anyS_calms [16, 17] 0 rfl (fun _ => rfl) (st_eq fun w' e => e ▸ hb8.out) (by kernel_rfl) (by kernel_rfl) (by kernel_rfl) ?_
      simp [nth]
      try simp only [Act.put, List.setIfInBounds_toArray, List.set_cons_succ, List.set_cons_zero]
      repeat (go_big_quiet_step (first | exact fun _ => rfl | rfl))
      refine wpQuiet_nil ?_
      refine anyS_done (by kernel_rfl) ?_
      rintro w9 rfl
      go_wp2_with fail
      go_ret
      exact ⟨rfl, hb8.out⟩
end Go.Proofs.YtakmlbnjgkfaiaaDoor

namespace Go.Proofs.YtakmlbnjgkfaiaaDoor
open Go Go.RowKit

theorem num_acc (l : List UInt8) : ∀ a : Nat, l.foldl (fun n (x : UInt8) => n * 256 + x.toNat) a = a * 256 ^ l.length + Pk.numL l := by
  induction l with
  | nil => intro a; simp [Pk.numL]
  | cons x l ih =>
    intro a
    have h1 := ih (a * 256 + x.toNat)
    have h2 := ih (0 * 256 + x.toNat)
    show (x :: l).foldl _ a = a * 256 ^ (x :: l).length + (x :: l).foldl _ 0
    rw [List.foldl_cons, List.foldl_cons, h1, h2, List.length_cons, Nat.pow_succ, Nat.zero_mul, Nat.zero_add, Nat.add_mul]
    have e : a * 256 * 256 ^ l.length = a * (256 ^ l.length * 256) := by rw [Nat.mul_assoc, Nat.mul_comm 256]
    rw [e]; omega
theorem num_cons (x : UInt8) (l : List UInt8) : Pk.numL (x :: l) = x.toNat * 256 ^ l.length + Pk.numL l := by
  have := num_acc l x.toNat
  rw [Pk.numL, List.foldl_cons]
  simpa using this
theorem num_beN (x : Nat) : ∀ k, Pk.numL (Pk.beN x k) = x % 256 ^ k
  | 0 => by simp [Pk.beN, Pk.numL, Nat.mod_one]
  | k + 1 => by
    have hp : 2 ^ (8 * k) = 256 ^ k := by rw [Nat.pow_mul]
    rw [Pk.beN, num_cons, Pk.beN_length, num_beN x k, UInt8.toNat_ofNat', hp]
    have h1 : x / 256 ^ k % 256 % 2 ^ 8 = x / 256 ^ k % 256 := Nat.mod_eq_of_lt (by omega)
    rw [h1, Nat.pow_succ, Nat.mod_mul]
    rw [Nat.mul_comm, Nat.add_comm]
theorem num8_back (n : Nat) (r : List UInt8) (hn : n < 9223372036854775808) : Pk.numR 8 (Pk.beN n 8 ++ r) 0 = ((n : Int), r, 0) := by
  have hm : n < 256 ^ 8 := by omega
  have ht : (Pk.beN n 8 ++ r).take 8 = Pk.beN n 8 := by rw [List.take_append_of_le_length (by rw [Pk.beN_length]; exact Nat.le_refl _), List.take_of_length_le (by rw [Pk.beN_length]; exact Nat.le_refl _)]
  have hd : (Pk.beN n 8 ++ r).drop 8 = r := by
    have := List.drop_left (l₁ := Pk.beN n 8) (l₂ := r)
    rwa [Pk.beN_length] at this
  rw [Pk.numR, if_neg (by decide), if_neg (by rw [List.length_append, Pk.beN_length]; omega), ht, hd, num_beN, Nat.mod_eq_of_lt hm, if_neg (by omega)]
theorem raw_back (x : ByteArray) (r : List UInt8) (hx : x.size = 32) : Pk.rawR 32 (x.data.toList ++ r) 0 = (x.data.toList, r, 0) := by
  have hl : x.data.toList.length = 32 := by rw [data_len]; exact hx
  have ht : (x.data.toList ++ r).take 32 = x.data.toList := by rw [List.take_append_of_le_length (by omega), List.take_of_length_le (by omega)]
  have hd : (x.data.toList ++ r).drop 32 = r := by
    have := List.drop_left (l₁ := x.data.toList) (l₂ := r)
    rwa [hl] at this
  rw [Pk.rawR, if_neg (by decide), if_neg (by omega), if_neg (by rw [List.length_append, hl]; omega)]
  show ((x.data.toList ++ r).take 32, (x.data.toList ++ r).drop 32, (0 : Int)) = _
  rw [ht, hd]
theorem hs_back (P : List ByteArray) (h : ∀ x ∈ P, x.size = 32) : ∀ k, k ≤ P.length → hsR k (P.flatMap fun x => x.data.toList) 0 = (P.take k, (P.drop k).flatMap fun x => x.data.toList, 0)
  | 0, _ => rfl
  | k + 1, hk => by
    have ih := hs_back P h k (by omega)
    have hd := List.drop_eq_getElem_cons (show k < P.length by omega)
    have hx := h (P[k]'(by omega)) (List.getElem_mem _)
    rw [hsR, ih]
    dsimp only
    rw [hd, List.flatMap_cons, raw_back _ _ hx, List.take_succ_eq_append_getElem (show k < P.length by omega)]
    rfl
/-- The bytes of a span whose peaks are hashes. -/
def spB (n : Nat) (P : List ByteArray) : List UInt8 := Pk.beN n 8 ++ P.flatMap fun x => x.data.toList
theorem sp_any (n : Nat) (P : List ByteArray) (hn : n < 9223372036854775808) (h : ∀ x ∈ P, x.size = 32) : (spI n P).any (fun x => !x.1) = false := by
  unfold spI
  rw [List.any_cons, List.any_map]
  have h1 : (n8I n).1 = true := by
    show decide (0 ≤ (n : Int) ∧ (n : Int) / 2 ^ (8 * 8) = 0) = true
    rw [decide_eq_true_eq]
    omega
  rw [h1]
  have h2 : P.any ((fun x : Bool × List UInt8 => !x.1) ∘ idI) = false := by
    rw [List.any_eq_false]
    intro x hx
    simp [idI, h x hx]
  rw [h2]; rfl
theorem sp_ansE (n : Nat) (P : List ByteArray) (hn : n < 9223372036854775808) (h : ∀ x ∈ P, x.size = 32) : ansE (spI n P) = 0 := by rw [ansE, sp_any n P hn h]; rfl
theorem sp_ansT (n : Nat) (P : List ByteArray) (hn : n < 9223372036854775808) (h : ∀ x ∈ P, x.size = 32) : (ansT (spI n P)).data.toList = spB n P := by
  rw [ansT, sp_any n P hn h]
  show ((spI n P).flatMap fun x => x.2) = _
  unfold spI spB
  rw [List.flatMap_cons, List.flatMap_map]
  rfl
theorem flat_32 : ∀ P : List ByteArray, (∀ x ∈ P, x.size = 32) → (P.flatMap fun x => x.data.toList).length = 32 * P.length
  | [], _ => rfl
  | x :: P, h => by
    rw [List.flatMap_cons, List.length_append, flat_32 P fun y hy => h y (List.mem_cons_of_mem _ hy), data_len, h x List.mem_cons_self, List.length_cons]; omega
theorem sp_size (n : Nat) (P : List ByteArray) (hn : n < 9223372036854775808) (h : ∀ x ∈ P, x.size = 32) : (ansT (spI n P)).size = 8 + 32 * P.length := by
  rw [← data_len, sp_ansT n P hn h, spB, List.length_append, Pk.beN_length, flat_32 P h]
theorem sp_back (n : Nat) (P : List ByteArray) (hn : n < 9223372036854775808) (hl : P.length = pcN n) (h : ∀ x ∈ P, x.size = 32) : rdN (spB n P) = n ∧ (rdH (spB n P)).1 = P ∧ rdE (spB n P) = 0 := by
  have h1 : Pk.numR 8 (spB n P) 0 = ((n : Int), P.flatMap (fun x => x.data.toList), 0) := num8_back n _ hn
  have h2 : rdN (spB n P) = n := by rw [rdN, h1]; rfl
  have h3 : rdH (spB n P) = (P, [], 0) := by
    rw [rdH, h2, h1]
    dsimp only
    rw [hs_back P h _ (by omega), ← hl, List.take_length, List.drop_length]
    rfl
  exact ⟨h2, by rw [h3], by rw [rdE, h3]; rfl⟩
theorem root_32 (l : List ByteArray) (h : ∀ x ∈ l, x.size = 32) : (rootL l).size = 32 := by
  by_cases h2 : 2 ≤ l.length
  · rw [rootL_cut l h2, nodeH_size]
  · match l, h, h2 with
    | [], _, _ => rw [rootL_nil, noneH_size]
    | [x], h, _ => rw [rootL_one]; exact h x List.mem_cons_self
    | _ :: _ :: _, _, h2 => simp at h2
theorem fpk_32 : ∀ (d : Nat) (l : List ByteArray), (∀ x ∈ l, x.size = 32) → ∀ x ∈ fpk d l, x.size = 32
  | 0, _, _, x, hx => by cases hx
  | d + 1, l, h, x, hx => by
    rw [fpk] at hx
    split at hx
    · rcases List.mem_cons.1 hx with rfl | hx
      · exact root_32 _ fun y hy => h y (List.mem_of_mem_take hy)
      · exact fpk_32 d _ (fun y hy => h y (List.mem_of_mem_drop hy)) x hx
    · exact fpk_32 d l h x hx
theorem pkL_32 (l : List ByteArray) (h : ∀ x ∈ l, x.size = 32) : ∀ x ∈ pkL l, x.size = 32 := by
  rw [← fpk_pkL l.length l Nat.lt_two_pow_self]
  exact fpk_32 _ l h
end Go.Proofs.YtakmlbnjgkfaiaaDoor
