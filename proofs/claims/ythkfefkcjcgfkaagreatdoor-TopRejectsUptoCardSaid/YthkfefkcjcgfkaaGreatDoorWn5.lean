/- A strings.Builder in memory: WriteString told with just what it changes. | Walk of note.Format. | Walks of the document's Good and Format. -/
import Derived.Test.YthkfefkcjcgfkaaGreatDoorWl1
import Derived.Test.YthkfefkcjcgfkaaGreatDoorWna
import Derived.Test.YthkfefkcjcgfkaaGreatDoorWn3
import Derived.Test.YthkfefkcjcgfkaaGreatDoorWn4
set_option linter.all false
namespace Go.Proofs.YthkfefkcjcgfkaaGreatDoor.Nt
open Go Go.RowKit

theorem chk_used (b : Nat) (w : World) (h0 : w.cell? ⟨b, 0, none⟩ = some (.pointer (some ⟨b, 0, none⟩))) :
    Calls Tryz.prog 57 #[.pointer (some ⟨b, 0, none⟩)] w fun e w' => e = .returned (.tuple #[]) ∧ w' = w :=
  Any.Builder_copyCheck_used { Tryz.lays166 with } Tryz.Builder_Extra_166.toX72 b w h0
theorem chk_fresh (b : Nat) (v : Value) (w : World) (hb : Pk.Blk w b [.pointer none, v] 65) :
    Calls Tryz.prog 57 #[.pointer (some ⟨b, 0, none⟩)] w fun e w' => e = .returned (.tuple #[]) ∧ w' = w.setCell ⟨b, 0, none⟩ (.pointer (some ⟨b, 0, none⟩)) :=
  Any.Builder_copyCheck_fresh { Tryz.lays166 with } Tryz.Builder_Extra_166.toX72 b w (hb.cell 0) (by
    have : w.heap[b]? = some (.cells #[.pointer none, v] 65 (0, 0)) := hb
    simp only [World.shape?, this]
    rfl) (hb.free 0)
/-- A builder in block b: what it has. -/
structure BdAt (w : World) (b : Nat) (v : Value) (l : List UInt8) : Prop where
  blk : ∃ p, (p = .pointer none ∨ p = .pointer (some ⟨b, 0, none⟩)) ∧ Pk.Blk w b [p, v] 65
  own : Pk.Own w v l
theorem BdAt.new (w : World) : BdAt (w.alloc (.cells #[.pointer none, .slice none 0 0] 65)) w.heap.size (.slice none 0 0) [] :=
  ⟨⟨_, .inl rfl, Pk.Blk.new w [.pointer none, .slice none 0 0] _⟩, Pk.Own.nil _⟩
theorem BdAt.apart {w : World} {b : Nat} {v : Value} {l : List UInt8} (h : BdAt w b v l) : v.ownBlock ≠ some b := by
  obtain ⟨p, hp, hk⟩ := h.blk
  exact h.own.apart hk (by decide)
theorem chk_any (b : Nat) (v : Value) (l : List UInt8) (w : World) (h : BdAt w b v l) :
    Calls Tryz.prog 57 #[.pointer (some ⟨b, 0, none⟩)] w fun e w' => e = .returned (.tuple #[]) ∧ Pk.Blk w' b [.pointer (some ⟨b, 0, none⟩), v] 65 ∧ Pk.Own w' v l ∧ Pk.Chg (fun k => k = b) w w' := by
  obtain ⟨p, hp, hk⟩ := h.blk
  rcases hp with rfl | rfl
  · refine (chk_fresh b v w hk).mono fun e w' he => ⟨he.1, ?_⟩
    rw [he.2]
    have hs : Pk.Chg (fun k => k = b) w (w.setCell ⟨b, 0, none⟩ (.pointer (some ⟨b, 0, none⟩))) := (Pk.Chg.refl (fun k => k = b) w).setCell (p := ⟨b, 0, none⟩) rfl _
    exact ⟨hk.setCell 0 _, h.own.chg hs fun k hk e => h.apart (by rw [hk, e]), hs⟩
  · refine (chk_used b w (hk.cell 0)).mono fun e w' he => ⟨he.1, ?_⟩
    rw [he.2]
    exact ⟨hk, h.own, Pk.Chg.refl _ _⟩
/-- What a write leaves. -/
structure BdPut (w : World) (b : Nat) (v : Value) (l : List UInt8) (v' : Value) (w' : World) : Prop where
  at_ : BdAt w' b v' l
  chg : Pk.Chg (fun k => k = b ∨ v.ownBlock = some k) w w'
  place : ∀ k, v'.ownBlock = some k → v.ownBlock = some k ∨ w.heap.size ≤ k
set_option maxHeartbeats 1600000 in
set_option maxRecDepth 100000 in
theorem wstr_any (b : Nat) (v : Value) (l : List UInt8) (s : ByteArray) (w : World) (h : BdAt w b v l) (hlen : l.length + s.size ≤ 70368744177664) :
    Calls Tryz.prog 20 #[.pointer (some ⟨b, 0, none⟩), .string s] w fun e w' => e = .returned (.tuple #[.int .i64 (s.size : Int), .nilIface]) ∧ ∃ v', BdPut w b v (l ++ s.data.toList) v' w' := by
  have hC := chk_any b v l w h
  obtain ⟨a, c, rfl⟩ := h.own.shape
  replace h := Box.mk h
  go_enter Tryz.func20, Tryz.ntmps20
  go_wp2_with fail
  refine hC.mono ?_
  clear hC
  rintro e w1 ⟨rfl, hk, hO, hc1⟩
  have c1 := hk.cell 1
  simp only [List.getElem?_cons_zero, List.getElem?_cons_succ] at c1
  replace hk := Box.mk hk
  replace hO := Box.mk hO
  replace hc1 := Box.mk hc1
  go_wp2_with (at_builtin; refine Pk.wpList_pushS rfl (.tmp 12) (.tmp 13) rfl _ l rfl hO.out s rfl hlen ?_)
  intro v' w2 hp
  have hap := hO.out.apart hk.out (by decide)
  have hk2 := hp.chg.blk hk.out fun e => hap e
  have d1 := hk2.cell 1
  have f1 := hk2.free 1
  simp only [List.getElem?_cons_zero, List.getElem?_cons_succ] at d1
  obtain ⟨a2, cc, rfl⟩ := hp.own.shape
  obtain ⟨M, hM⟩ : ∃ M, (l ++ s.data.toList).length = M := ⟨_, rfl⟩
  rw [hM] at hp ⊢
  clear hM
  replace hk2 := Box.mk hk2
  replace hp := Box.mk hp
  clear hlen
  go_wp2_with fail
  go_returns
  have hs : Pk.Chg (fun k => k = b) w2 (w2.setCell ⟨b, 1, none⟩ (.slice a2 M cc)) := (Pk.Chg.refl (fun k => k = b) w2).setCell (p := ⟨b, 1, none⟩) rfl _
  have hap2 := hp.out.own.apart hk2.out (by decide)
  refine ⟨rfl, _, ⟨⟨_, .inr rfl, hk2.out.setCell 1 _⟩, hp.out.own.chg hs fun k hk e => hap2 (by rw [hk, e])⟩, ?_, fun k hk => ?_⟩
  · exact ((hc1.out.mono fun i _ e => .inl e).trans (hp.out.chg.mono fun i _ e => .inr e) fun i _ e => e).trans hs fun i _ e => .inl e
  · rcases hp.out.place k hk with h1 | h1
    · exact .inl h1
    · exact .inr (Nat.le_trans hc1.out.size h1)
theorem freeze_chg (w : World) (g n : Nat) : Pk.Chg (fun k => k = g) w (w.freeze ⟨g, 0, none⟩ n) := by
  have h := Lib.below_freeze (B := 0) (Below.refl 0 w) (p := ⟨g, 0, none⟩) (Nat.zero_le _) n
  refine ⟨h.os, h.tape, h.output, h.size, fun k hk hn => ?_⟩
  unfold World.freeze
  split
  · rfl
  · simp only [Array.getElem?_modify]
    rw [if_neg (Ne.symm hn)]
set_option maxHeartbeats 1600000 in
set_option maxRecDepth 100000 in
/-- What it has as a text. -/
theorem bstr_any (b : Nat) (v : Value) (l : List UInt8) (w : World) (h : BdAt w b v l) (h0 : l ≠ []) :
    Calls Tryz.prog 22 #[.pointer (some ⟨b, 0, none⟩)] w fun e w' => e = .returned (.string ⟨l.toArray⟩) ∧ Pk.Chg (fun k => v.ownBlock = some k) w w' := by
  obtain ⟨p, _, hk⟩ := h.blk
  have hown := h.own
  have hl0 : l.length ≠ 0 := by simpa using h0
  obtain ⟨g, cap, cur, rfl, _, hg, hnc, hcm, hcs, htake⟩ : ∃ g cap cur, v = .slice (some ⟨g, 0, none⟩) l.length cap ∧ 0 ≤ g ∧ w.heap[g]? = some (.cells cur 5 (0, 0)) ∧ l.length ≤ cap ∧ cap ≤ maxLen ∧ cur.size = cap * 1 ∧ cur.toList.take (l.length * 1) = l.map Pk.yc := by
    rcases hown.2 with ⟨_, hz⟩ | ⟨g, cap, cur, hv, r⟩
    · exact absurd hz hl0
    · exact ⟨g, cap, cur, hv, r⟩
  have hk2 : Pk.Blk w.drew b [p, .slice (some ⟨g, 0, none⟩) l.length cap] 65 := hk
  have c1 : w.drew.cell? ⟨b, 1, none⟩ = some (.slice (some ⟨g, 0, none⟩) l.length cap) := hk2.cell 1
  have hSD : (Builtin.unsafeSliceData_ #[63] 105 #[.slice (some ⟨g, 0, none⟩) l.length cap]).run Tryz.prog w.drew = .ok (.pointer (some ⟨g, 0, none⟩)) w.drew :=
    Lib.run_unsafeSliceData_row _ _ _ _ _ _ (by omega)
  have hUS : (Builtin.unsafeString_ #[105, 3] 9 #[.pointer (some ⟨g, 0, none⟩), .int .i64 l.length]).run Tryz.prog w.drew = .ok (.string ⟨l.toArray⟩) (w.drew.freeze ⟨g, 0, none⟩ l.length) := by
    refine Lib.run_unsafeString_row w.drew 105 3 9 5 Tryz.underlying105 (by kernel_rfl) g cur.size (by have hg' : w.drew.heap[g]? = some (.cells cur 5 (0, 0)) := hg; simp [World.shape?, hg']) l h0 (by omega) (by unfold maxLen at hcm; omega) ?_
    intro j x hx
    have := World.ownsRow.cells (g := g) hown rfl j (.int .u8 x.toNat) (by simp [Pk.yc, hx]; rfl)
    exact this
  have hfz := (Pk.Chg.refl (fun k => k = g) w).drew.trans (freeze_chg w.drew g l.length) fun i _ e => e
  have hG : Box (Pk.Chg (fun k => (Value.slice (some ⟨g, 0, none⟩) l.length cap).ownBlock = some k) w (w.drew.freeze ⟨g, 0, none⟩ l.length)) := ⟨hfz.mono fun i _ e => by rw [e]; rfl⟩
  clear hfz htake hcs hg hown hk hk2 h hcm hnc
  go_enter Tryz.func22, Tryz.ntmps22
  go_wp2_with fail
  go_region
  all_goals (go_wp2_with fail; go_ret; exact ⟨rfl, hG.out⟩)
end Go.Proofs.YthkfefkcjcgfkaaGreatDoor.Nt

namespace Go.Proofs.YthkfefkcjcgfkaaGreatDoor.Nt
open Go Go.RowKit

def fmV (n : ByteArray × List (ByteArray × ByteArray)) : Value := .tuple #[.string (fmtN n), .int .i64 (fmtE n)]
theorem fmV_yes {n : ByteArray × List (ByteArray × ByteArray)} (h : gN n = true) : fmV n = .tuple #[.string ⟨(byN n).toArray⟩, .int .i64 0] := by unfold fmV fmtN fmtE; rw [if_pos h, if_pos h]
theorem fmV_no {n : ByteArray × List (ByteArray × ByteArray)} (h : gN n = false) : fmV n = .tuple #[.string ⟨#[]⟩, .int .i64 1] := by unfold fmV fmtN fmtE; rw [if_neg (by simp [h]), if_neg (by simp [h])]; rfl
theorem gN_iff {t : ByteArray} {sg : List (ByteArray × ByteArray)} : gN (t, sg) = true ↔ gT t.data.toList = true ∧ sg.length ≤ 16 ∧ ∀ x ∈ sg, x.1.size = 32 ∧ 1 ≤ x.2.size ∧ x.2.size ≤ 1024 := by
  unfold gN gS; simp [and_assoc]
/-- What stands behind the text and some of the signatures. -/
def fmL (t : ByteArray) (sg : List (ByteArray × ByteArray)) (i : Nat) : List UInt8 := t.data.toList ++ 10 :: sgL (sg.take i)
theorem fmL_zero (t : ByteArray) (sg : List (ByteArray × ByteArray)) : fmL t sg 0 = (t ++ sN).data.toList := by
  unfold fmL sgL sN; simp [jn]
def sSig : ByteArray := ⟨#[115, 105, 103, 32]⟩
def sBl : ByteArray := ⟨#[32]⟩
theorem fmL_succ (t : ByteArray) (sg : List (ByteArray × ByteArray)) (i : Nat) (h : i < sg.length) : fmL t sg (i + 1) = fmL t sg i ++ (sSig ++ hxT (sg.getD i default).1 ++ sBl ++ hxT (sg.getD i default).2 ++ sN).data.toList := by
  have e : sg.take (i + 1) = sg.take i ++ [sg.getD i default] := by
    rw [List.take_succ_eq_append_getElem h, show sg.getD i default = sg[i] by simp [List.getD, h]]
  unfold fmL sgL
  rw [e, List.map_append, jn_app]
  simp [jn, sLn, sSig, hxT, sBl, sN, lSig]
theorem fmL_all (t : ByteArray) (sg : List (ByteArray × ByteArray)) : fmL t sg sg.length = byN (t, sg) := by unfold fmL byN; rw [List.take_length]
theorem sLn_len (x : ByteArray × ByteArray) (h1 : x.1.size = 32) (h2 : x.2.size ≤ 1024) : (sLn x).length ≤ 2200 := by
  unfold sLn lSig
  simp [hexL_length]
  have e1 := data_len x.1
  have e2 := data_len x.2
  simp at e1 e2
  omega
theorem sgL_len : ∀ sg : List (ByteArray × ByteArray), (∀ x ∈ sg, x.1.size = 32 ∧ x.2.size ≤ 1024) → (sgL sg).length ≤ 2201 * sg.length
  | [], _ => by simp [sgL, jn]
  | x :: sg, h => by
    have e : sgL (x :: sg) = sLn x ++ 10 :: sgL sg := by unfold sgL; rw [List.map_cons, jn_cons]
    have h1 := sLn_len x (h x (by simp)).1 (h x (by simp)).2
    have h2 := sgL_len sg fun y hy => h y (by simp [hy])
    rw [e]
    simp only [List.length_append, List.length_cons]
    omega
theorem fmL_len {t : ByteArray} {sg : List (ByteArray × ByteArray)} (h : gN (t, sg) = true) (i : Nat) : (fmL t sg i).length ≤ t.size + 35217 := by
  obtain ⟨_, h2, h3⟩ := gN_iff.1 h
  have h4 := sgL_len (sg.take i) fun x hx => ⟨(h3 x (List.mem_of_mem_take hx)).1, (h3 x (List.mem_of_mem_take hx)).2.2⟩
  have h5 : (sg.take i).length ≤ 16 := by rw [List.length_take]; omega
  unfold fmL
  rw [List.length_append, List.length_cons, data_len]
  omega
/-- In Format: the builder, in memory of one's own. -/
structure FmAt (w0 w : World) (b : Nat) (v : Value) (l : List UInt8) : Prop where
  at_ : BdAt w b v l
  bb : w0.heap.size ≤ b
  bo : ∀ k, v.ownBlock = some k → w0.heap.size ≤ k
  bel : Below w0.heap.size w0 w
theorem FmAt.here {w0 w w' : World} {b : Nat} {v : Value} {l : List UInt8} (h : FmAt w0 w b v l) (hb : Below w.heap.size w w') : FmAt w0 w' b v l := by
  obtain ⟨p, hp, hk⟩ := h.at_.blk
  exact ⟨⟨⟨p, hp, (hb.block _ hk.lt).trans hk⟩, h.at_.own.kept fun k hk => hb.block k (h.at_.own.lt k hk)⟩, h.bb, h.bo, mono_bel h.bel hb (Nat.le_refl _)⟩
theorem FmAt.put {w0 w w' : World} {b : Nat} {v v' : Value} {l l' : List UInt8} (h : FmAt w0 w b v l) (hp : BdPut w b v l' v' w') : FmAt w0 w' b v' l' :=
  ⟨hp.at_, h.bb, fun k hk => by
    rcases hp.place k hk with h1 | h1
    · exact h.bo k h1
    · exact Nat.le_trans h.bel.size h1, h.bel.trans (hp.chg.below h.bel.size fun i hi => by
    rcases hi with rfl | hi
    · exact h.bb
    · exact h.bo i hi)⟩
theorem FmAt.new (w : World) : FmAt w (w.alloc (.cells #[.pointer none, .slice none 0 0] 65)) w.heap.size (.slice none 0 0) [] := ⟨BdAt.new w, Nat.le_refl _, fun k hk => (by cases hk), bel_alloc _ _⟩
set_option maxHeartbeats 6400000 in
set_option maxRecDepth 100000 in
theorem format_any (t : ByteArray) (a : Option Addr) (n c : Nat) (sg : List (ByteArray × ByteArray)) (B : Nat) (w : World) (hL : NL B w) (hB : B ≤ w.heap.size) (hs : t.size ≤ 1073741824) (hv : SigsAt w (.slice a n c) sg) (hn : sg.length = n) (hm : n ≤ 1073741824) (hz : ZS sg) :
    Calls Tryz.prog 6 #[.agg #[.string t, .slice a n c]] w fun e w' => e = .returned (fmV (t, sg)) ∧ Below w.heap.size w w' := by
  obtain ⟨W1, hW1⟩ : ∃ W1, w.alloc (.cells #[.string t, .slice a n c] 29) = W1 := ⟨_, rfl⟩
  have hB1 : Below w.heap.size w W1 := by rw [← hW1]; exact bel_alloc _ _
  have hS1 : Pk.Blk W1 w.heap.size [.string t, .slice a n c] 29 := by rw [← hW1]; exact Pk.Blk.new w _ _
  have s0 : W1.cell? ⟨w.heap.size, 0, none⟩ = some (.string t) := hS1.cell 0
  have s1 : W1.cell? ⟨w.heap.size, 1, none⟩ = some (.slice a n c) := hS1.cell 1
  have hF := goodnote_any t a n c sg B W1 (hL.here hB hB1) (Nat.le_trans hB hB1.size) hs (hv.here hB1) hn hm hz
  cases hg : gN (t, sg) with
  | false =>
    rw [hg] at hF
    rw [fmV_no hg]
    replace hB1 := Box.mk hB1
    clear hL hB hv hn hz hs hS1 hg
    go_enter Tryz.func6, Tryz.ntmps6
    go_wp2_with fail
    refine hF.mono ?_
    clear hF
    rintro e w1 ⟨rfl, hb1⟩
    replace hb1 := Box.mk hb1
    go_wp2_with fail
    go_ret2
    exact ⟨rfl, mono_bel hB1.out hb1.out (Nat.le_refl _)⟩
  | true =>
    rw [hg] at hF
    rw [fmV_yes hg]
    obtain ⟨_, g2, g3⟩ := gN_iff.1 hg
    have hlen := Box.mk (fmL_len hg)
    have hz0 := Box.mk (fmL_zero t sg)
    have hsu := Box.mk (fmL_succ t sg)
    have hall := Box.mk (fmL_all t sg)
    have hvB := Box.mk (hv.here hB1)
    have hnB := Box.mk hn
    replace g3 := Box.mk g3
    rw [hn] at g2
    replace hB1 := Box.mk hB1
    replace hS1 := Box.mk hS1
    clear hL hB hv hz hg hn hm
    go_enter Tryz.func6, Tryz.ntmps6
    go_wp2_with fail
    refine hF.mono ?_
    clear hF
    rintro e w1 ⟨rfl, hb1⟩
    have hS2 := Box.mk ((hb1.block _ hS1.out.lt).trans hS1.out)
    have hB2 := Box.mk (mono_bel hB1.out hb1 (Nat.le_refl _))
    have hv2 := Box.mk (hvB.out.here hb1)
    have hA := Box.mk (FmAt.new w1)
    have hS3 : Pk.Blk (w1.alloc (.cells #[.pointer none, .slice none 0 0] 65)) w.heap.size [.string t, .slice a n c] 29 := ((bel_alloc w1 _).block _ (Pk.Blk.lt hS2.out)).trans hS2.out
    have t0 : (w1.alloc (.cells #[.pointer none, .slice none 0 0] 65)).cell? ⟨w.heap.size, 0, none⟩ = some (.string t) := hS3.cell 0
    have hW := wstr_any w1.heap.size (.slice none 0 0) [] (t ++ sN) _ hA.out.at_ (by show 0 + (t ++ sN).size ≤ _; rw [ByteArray.size_append]; show 0 + (t.size + 1) ≤ _; omega)
    rw [List.nil_append] at hW
    rw [← hz0.out] at hW
    unfold sN at hW
    obtain ⟨bb, hbb⟩ : ∃ b, w1.heap.size = b := ⟨_, rfl⟩
    rw [hbb] at hW hA
    have hbb1 : w.heap.size < w1.heap.size := Pk.Blk.lt hS2.out
    clear s0 s1 hb1 hS1 hvB hB1 hS3 hz0
    go_wp2_with fail
    refine hW.mono ?_
    clear hW t0
    rintro e w2 ⟨rfl, v2, hp2⟩
    have hA2 := Box.mk (hA.out.put hp2)
    have s1 : w2.cell? ⟨w.heap.size, 1, none⟩ = some (.slice a n c) := (hA2.out.bel.cell (p := ⟨w.heap.size, 1, none⟩) hbb1).trans (Pk.Blk.cell hS2.out 1)
    clear hA hp2 hbb hS2 hbb1
    go_wp2_with fail
    go_loopw [17] (fun q wr => ∃ (i : Nat) (v : Value), i ≤ n ∧ q = .int .i64 (i : Int) ∧ Box (FmAt w1 wr bb v (fmL t sg i))) (fun q _ => n - (intOf q).toNat)
    case atStart => exact ⟨0, v2, by omega, rfl, hA2⟩
    case round =>
      clear hA2 s1
      obtain ⟨i, v, hi, rfl, hA⟩ := hrel
      by_cases hlt : i < n
      · have hig : i < sg.length := by rw [hnB.out]; exact hlt
        obtain ⟨b1, o1, rfl, k0, k1⟩ := (hv2.out.here hA.out.bel).at i hig
        have hsi := hsu.out i hig
        have hxs := g3.out _ (mem_getD hig)
        have hln := hlen.out i
        obtain ⟨x, hx⟩ : ∃ x, sg.getD i default = x := ⟨_, rfl⟩
        rw [hx] at k0 k1 hsi hxs
        obtain ⟨x1, x2⟩ := x
        simp only at k0 k1 hsi hxs
        obtain ⟨e1, e2, e3⟩ := hxs
        have hii : (i : Int) < (n : Int) := by omega
        obtain ⟨wx, hwx⟩ : ∃ wx, wr.alloc (.cells #[.string x1, .string x2] 71) = wx := ⟨_, rfl⟩
        have hA3 : Box (FmAt w1 wx bb v (fmL t sg i)) := ⟨by rw [← hwx]; exact hA.out.here (bel_alloc _ _)⟩
        have hSx : Box (Pk.Blk wx wr.heap.size [.string x1, .string x2] 71) := ⟨by rw [← hwx]; exact Pk.Blk.new wr _ _⟩
        have hsz : Box ((hxT x1).size = 64 ∧ (hxT x2).size ≤ 2048) := ⟨by rw [hxT_size, e1], by rw [hxT_size]; omega⟩
        have hH1 := Box.mk (fun w' => hex_any x1 w' (by omega))
        have hH2 := Box.mk (fun w' => hex_any x2 w' (by omega))
        have hWs := Box.mk (fun (w' : World) (h : Below wx.heap.size wx w') => wstr_any bb v (fmL t sg i) (sSig ++ hxT x1 ++ sBl ++ hxT x2 ++ sN) w' (hA3.out.here h).at_ (by
          have h1 := hsz.out
          rw [ByteArray.size_append, ByteArray.size_append, ByteArray.size_append, ByteArray.size_append]
          have z1 : sSig.size = 4 := rfl
          have z2 : sBl.size = 1 := rfl
          have z3 : sN.size = 1 := rfl
          omega))
        rw [← hsi] at hWs
        clear hx hig hsi hln e1 e2 e3 hA
        go_wp2_with fail
        refine region_steady (PC wx) (fun w w' => Below w.heap.size w w') rfl (dB wx) ?_
        refine anyS_calms [0, 1] 9 rfl (fun _ => Below.refl _ _) (PC.st wx) (by kernel_rfl) (by kernel_rfl) (by kernel_rfl) ?_
        simp [nth]
        try simp only [Act.put, List.setIfInBounds_toArray, List.set_cons_succ, List.set_cons_zero]
        repeat (go_big_quiet_step (first | exact fun _ => rfl | rfl))
        refine quiet_val rfl (.string x1) (fun w' hw' => by have h3 := (Pk.Blk.cell ((hw'.block _ (Pk.Blk.lt hSx.out)).trans hSx.out) 0); simp only [List.getElem?_cons_zero] at h3; go_simp) ?_
        simp only [Act.put, List.setIfInBounds_toArray, List.set_cons_succ, List.set_cons_zero]
        refine wpQuiet_nil ?_
        refine anyS_call 2 (.string (hxT x1)) (fun _ => Below.refl _ _) (PC.st wx) (by kernel_rfl) rfl (by kernel_rfl) (by kernel_rfl) rfl (fun w' _ => hH1.out w') (fun w' _ => by go_simp) ?_
        refine anyS_calms [3, 4, 5, 6] 4 rfl (fun _ => Below.refl _ _) (PC.st wx) (by kernel_rfl) (by kernel_rfl) (by kernel_rfl) ?_
        simp [nth]
        try simp only [Act.put, List.setIfInBounds_toArray, List.set_cons_succ, List.set_cons_zero]
        refine quiet_val rfl (.string (sSig ++ hxT x1)) (fun w' _ => by unfold sSig; go_simp; have := hsz.out; omega) ?_
        simp only [Act.put, List.setIfInBounds_toArray, List.set_cons_succ, List.set_cons_zero]
        refine quiet_val rfl (.string (sSig ++ hxT x1 ++ sBl)) (fun w' _ => by unfold sBl; go_simp; have := hsz.out; have z1 : sSig.size = 4 := rfl; omega) ?_
        simp only [Act.put, List.setIfInBounds_toArray, List.set_cons_succ, List.set_cons_zero]
        repeat (go_big_quiet_step (first | exact fun _ => rfl | rfl))
        refine quiet_val rfl (.string x2) (fun w' hw' => by have h3 := (Pk.Blk.cell ((hw'.block _ (Pk.Blk.lt hSx.out)).trans hSx.out) 1); simp only [List.getElem?_cons_zero, List.getElem?_cons_succ] at h3; go_simp) ?_
        simp only [Act.put, List.setIfInBounds_toArray, List.set_cons_succ, List.set_cons_zero]
        refine wpQuiet_nil ?_
        refine anyS_call 7 (.string (hxT x2)) (fun _ => Below.refl _ _) (PC.st wx) (by kernel_rfl) rfl (by kernel_rfl) (by kernel_rfl) rfl (fun w' _ => hH2.out w') (fun w' _ => by go_simp) ?_
        refine anyS_calms [8, 9] 1 rfl (fun _ => Below.refl _ _) (PC.st wx) (by kernel_rfl) (by kernel_rfl) (by kernel_rfl) ?_
        simp [nth]
        try simp only [Act.put, List.setIfInBounds_toArray, List.set_cons_succ, List.set_cons_zero]
        refine quiet_val rfl (.string (sSig ++ hxT x1 ++ sBl ++ hxT x2)) (fun w' _ => by go_simp; have := hsz.out; have z1 : sSig.size = 4 := rfl; have z2 : sBl.size = 1 := rfl; omega) ?_
        simp only [Act.put, List.setIfInBounds_toArray, List.set_cons_succ, List.set_cons_zero]
        refine quiet_val rfl (.string (sSig ++ hxT x1 ++ sBl ++ hxT x2 ++ sN)) (fun w' _ => by unfold sN; go_simp; have := hsz.out; have z1 : sSig.size = 4 := rfl; have z2 : sBl.size = 1 := rfl; omega) ?_
        simp only [Act.put, List.setIfInBounds_toArray, List.set_cons_succ, List.set_cons_zero]
        refine wpQuiet_nil ?_
        generalize sSig ++ hxT x1 ++ sBl ++ hxT x2 ++ sN = Z at hWs ⊢
        clear hH1 hH2 hsz
        refine anyS_last 10 (by kernel_rfl) rfl rfl (by kernel_rfl) (by kernel_rfl) (fun wc hWc K hK => ?_)
        have hF := hWs.out wc hWc
        go_simp
        refine hF.mono ?_
        rintro e w5 ⟨rfl, v5, hp5⟩
        have hA5 := Box.mk ((hA3.out.here hWc).put hp5)
        refine hK _ _ ?_
        clear hK K hF hWc hp5 hA3 hWs hSx hwx k0 k1
        go_wp2_with fail
        exact ⟨⟨i + 1, v5, by omega, by go_num, hA5⟩, by simp [intOf]; omega⟩
      · obtain rfl : i = n := by omega
        have hl0 : fmL t sg i ≠ [] := by unfold fmL; simp
        have hF := bstr_any bb v (fmL t sg i) wr hA.out.at_ hl0
        have he : fmL t sg i = byN (t, sg) := by rw [← hnB.out]; exact hall.out
        rw [he] at hF
        have hfin := Box.mk (fun (w' : World) (hc : Pk.Chg (fun k => v.ownBlock = some k) wr w') => (mono_bel hB2.out (hA.out.bel.trans (hc.below hA.out.bel.size fun k hk => hA.out.bo k hk)) (Nat.le_refl _) : Below w.heap.size w w'))
        obtain ⟨Z, hZ⟩ : ∃ Z : ByteArray, (⟨(byN (t, sg)).toArray⟩ : ByteArray) = Z := ⟨_, rfl⟩
        rw [hZ] at hF
        replace hZ := Box.mk hZ
        clear hA he hl0
        go_wp2_with fail
        refine hF.mono ?_
        clear hF
        rintro e w5 ⟨rfl, hc5⟩
        replace hc5 := Box.mk hc5
        go_wp2_with fail
        go_ret2
        exact ⟨by rw [hZ.out]; rfl, hfin.out _ hc5.out⟩
end Go.Proofs.YthkfefkcjcgfkaaGreatDoor.Nt

namespace Go.Proofs.YthkfefkcjcgfkaaGreatDoor.Nt
open Go Go.RowKit

def neB (x : ByteArray) : Bool := !decide (x = ⟨#[]⟩)
theorem ne_b (x : ByteArray) : (!x.toList.isEmpty) = neB x := by
  unfold neB
  have h := tl_eq x ⟨#[]⟩
  have e : (⟨#[]⟩ : ByteArray).toList = [] := by rw [ByteArray.toList_eq]
  rw [e] at h
  rw [← h]
  cases x.toList <;> rfl
theorem bT_size (l : List UInt8) : (bT l).size = l.length := rfl
end Go.Proofs.YthkfefkcjcgfkaaGreatDoor.Nt
