/- A strings.Builder in memory: WriteString told with just what it changes. -/
import Derived.Test.YtdjppgmaokcgiaaDoorBld
import Derived.Test.YtdjppgmaokcgiaaDoorNtT
namespace Go.Proofs.YtdjppgmaokcgiaaDoor.Nt
open Go Go.RowKit

theorem chk_used (b : Nat) (w : World) (h0 : w.cell? ⟨b, 0, none⟩ = some (.pointer (some ⟨b, 0, none⟩))) :
    Calls Tryd.prog 48 #[.pointer (some ⟨b, 0, none⟩)] w fun e w' => e = .returned (.tuple #[]) ∧ w' = w :=
  Any.Builder_copyCheck_used { Tryd.lays166 with } Tryd.Builder_Extra_166.toX72 b w h0
theorem chk_fresh (b : Nat) (v : Value) (w : World) (hb : Pk.Blk w b [.pointer none, v] 57) :
    Calls Tryd.prog 48 #[.pointer (some ⟨b, 0, none⟩)] w fun e w' => e = .returned (.tuple #[]) ∧ w' = w.setCell ⟨b, 0, none⟩ (.pointer (some ⟨b, 0, none⟩)) :=
  Any.Builder_copyCheck_fresh { Tryd.lays166 with } Tryd.Builder_Extra_166.toX72 b w (hb.cell 0) (by
    have : w.heap[b]? = some (.cells #[.pointer none, v] 57 (0, 0)) := hb
    simp only [World.shape?, this]
    rfl) (hb.free 0)
/-- A builder in block b: what it has. -/
structure BdAt (w : World) (b : Nat) (v : Value) (l : List UInt8) : Prop where
  blk : ∃ p, (p = .pointer none ∨ p = .pointer (some ⟨b, 0, none⟩)) ∧ Pk.Blk w b [p, v] 57
  own : Pk.Own w v l
theorem BdAt.new (w : World) : BdAt (w.alloc (.cells #[.pointer none, .slice none 0 0] 57)) w.heap.size (.slice none 0 0) [] :=
  ⟨⟨_, .inl rfl, Pk.Blk.new w [.pointer none, .slice none 0 0] _⟩, Pk.Own.nil _⟩
theorem BdAt.chg {S : Nat → Prop} {w w' : World} {b : Nat} {v : Value} {l : List UInt8} (h : BdAt w b v l) (hc : Pk.Chg S w w') (hb : ¬ S b) (hv : ∀ k, v.ownBlock = some k → ¬ S k) : BdAt w' b v l := by
  obtain ⟨p, hp, hk⟩ := h.blk
  exact ⟨⟨p, hp, hc.blk hk hb⟩, h.own.chg hc hv⟩
theorem BdAt.apart {w : World} {b : Nat} {v : Value} {l : List UInt8} (h : BdAt w b v l) : v.ownBlock ≠ some b := by
  obtain ⟨p, hp, hk⟩ := h.blk
  exact h.own.apart hk (by decide)
theorem chk_any (b : Nat) (v : Value) (l : List UInt8) (w : World) (h : BdAt w b v l) :
    Calls Tryd.prog 48 #[.pointer (some ⟨b, 0, none⟩)] w fun e w' => e = .returned (.tuple #[]) ∧ Pk.Blk w' b [.pointer (some ⟨b, 0, none⟩), v] 57 ∧ Pk.Own w' v l ∧ Pk.Chg (fun k => k = b) w w' := by
  obtain ⟨p, hp, hk⟩ := h.blk
  rcases hp with rfl | rfl
  · refine (chk_fresh b v w hk).mono fun e w' he => ⟨he.1, ?_⟩
    rw [he.2]
    have hs : Pk.Chg (fun k => k = b) w (w.setCell ⟨b, 0, none⟩ (.pointer (some ⟨b, 0, none⟩))) := (Pk.Chg.refl (fun k => k = b) w).setCell (p := ⟨b, 0, none⟩) rfl _
    exact ⟨hk.setCell 0 _, h.own.chg hs fun k hk e => h.apart (by rw [hk, e]), hs⟩
  · refine (chk_used b w (hk.cell 0)).mono fun e w' he => ⟨he.1, ?_⟩
    rw [he.2]
    exact ⟨hk, h.own, Pk.Chg.refl _ _⟩
/-- What a write leaves. -/
structure BdPut (w : World) (b : Nat) (v : Value) (l : List UInt8) (v' : Value) (w' : World) : Prop where
  at_ : BdAt w' b v' l
  chg : Pk.Chg (fun k => k = b ∨ v.ownBlock = some k) w w'
  place : ∀ k, v'.ownBlock = some k → v.ownBlock = some k ∨ w.heap.size ≤ k
set_option maxHeartbeats 1600000 in
set_option maxRecDepth 100000 in
theorem wstr_any (b : Nat) (v : Value) (l : List UInt8) (s : ByteArray) (w : World) (h : BdAt w b v l) (hlen : l.length + s.size ≤ 70368744177664) :
    Calls Tryd.prog 31 #[.pointer (some ⟨b, 0, none⟩), .string s] w fun e w' => e = .returned (.tuple #[.int .i64 (s.size : Int), .nilIface]) ∧ ∃ v', BdPut w b v (l ++ s.data.toList) v' w' := by
  have hC := chk_any b v l w h
  obtain ⟨a, c, rfl⟩ := h.own.shape
  replace h := Box.mk h
  go_enter Tryd.func31, Tryd.ntmps31
  go_wp2_with fail
  refine hC.mono ?_
  clear hC
  rintro e w1 ⟨rfl, hk, hO, hc1⟩
  have c1 := hk.cell 1
  simp only [List.getElem?_cons_zero, List.getElem?_cons_succ] at c1
  replace hk := Box.mk hk
  replace hO := Box.mk hO
  replace hc1 := Box.mk hc1
  go_wp2_with (at_builtin; refine Pk.wpList_pushS rfl (.tmp 12) (.tmp 13) rfl _ l rfl hO.out s rfl hlen ?_)
  intro v' w2 hp
  have hap := hO.out.apart hk.out (by decide)
  have hk2 := hp.chg.blk hk.out fun e => hap e
  have d1 := hk2.cell 1
  have f1 := hk2.free 1
  simp only [List.getElem?_cons_zero, List.getElem?_cons_succ] at d1
  obtain ⟨a2, cc, rfl⟩ := hp.own.shape
  obtain ⟨M, hM⟩ : ∃ M, (l ++ s.data.toList).length = M := ⟨_, rfl⟩
  rw [hM] at hp ⊢
  clear hM
  replace hk2 := Box.mk hk2
  replace hp := Box.mk hp
  clear hlen
  go_wp2_with fail
  go_returns
  have hs : Pk.Chg (fun k => k = b) w2 (w2.setCell ⟨b, 1, none⟩ (.slice a2 M cc)) := (Pk.Chg.refl (fun k => k = b) w2).setCell (p := ⟨b, 1, none⟩) rfl _
  have hap2 := hp.out.own.apart hk2.out (by decide)
  refine ⟨rfl, _, ⟨⟨_, .inr rfl, hk2.out.setCell 1 _⟩, hp.out.own.chg hs fun k hk e => hap2 (by rw [hk, e])⟩, ?_, fun k hk => ?_⟩
  · exact ((hc1.out.mono fun i _ e => .inl e).trans (hp.out.chg.mono fun i _ e => .inr e) fun i _ e => e).trans hs fun i _ e => .inl e
  · rcases hp.out.place k hk with h1 | h1
    · exact .inl h1
    · exact .inr (Nat.le_trans hc1.out.size h1)
theorem freeze_chg (w : World) (g n : Nat) : Pk.Chg (fun k => k = g) w (w.freeze ⟨g, 0, none⟩ n) := by
  have h := Lib.below_freeze (B := 0) (Below.refl 0 w) (p := ⟨g, 0, none⟩) (Nat.zero_le _) n
  refine ⟨h.os, h.tape, h.output, h.size, fun k hk hn => ?_⟩
  unfold World.freeze
  split
  · rfl
  · simp only [Array.getElem?_modify]
    rw [if_neg (Ne.symm hn)]
set_option maxHeartbeats 1600000 in
set_option maxRecDepth 100000 in
/-- What it has as a text. -/
theorem bstr_any (b : Nat) (v : Value) (l : List UInt8) (w : World) (h : BdAt w b v l) (h0 : l ≠ []) :
    Calls Tryd.prog 32 #[.pointer (some ⟨b, 0, none⟩)] w fun e w' => e = .returned (.string ⟨l.toArray⟩) ∧ Pk.Chg (fun k => v.ownBlock = some k) w w' := by
  obtain ⟨p, _, hk⟩ := h.blk
  have hown := h.own
  have hl0 : l.length ≠ 0 := by simpa using h0
  obtain ⟨g, cap, cur, rfl, _, hg, hnc, hcm, hcs, htake⟩ : ∃ g cap cur, v = .slice (some ⟨g, 0, none⟩) l.length cap ∧ 0 ≤ g ∧ w.heap[g]? = some (.cells cur 5 (0, 0)) ∧ l.length ≤ cap ∧ cap ≤ maxLen ∧ cur.size = cap * 1 ∧ cur.toList.take (l.length * 1) = l.map Pk.yc := by
    rcases hown.2 with ⟨_, hz⟩ | ⟨g, cap, cur, hv, r⟩
    · exact absurd hz hl0
    · exact ⟨g, cap, cur, hv, r⟩
  have hk2 : Pk.Blk w.drew b [p, .slice (some ⟨g, 0, none⟩) l.length cap] 57 := hk
  have c1 : w.drew.cell? ⟨b, 1, none⟩ = some (.slice (some ⟨g, 0, none⟩) l.length cap) := hk2.cell 1
  have hSD : (Builtin.unsafeSliceData_ #[44] 72 #[.slice (some ⟨g, 0, none⟩) l.length cap]).run Tryd.prog w.drew = .ok (.pointer (some ⟨g, 0, none⟩)) w.drew :=
    Lib.run_unsafeSliceData_row _ _ _ _ _ _ (by omega)
  have hUS : (Builtin.unsafeString_ #[72, 3] 9 #[.pointer (some ⟨g, 0, none⟩), .int .i64 l.length]).run Tryd.prog w.drew = .ok (.string ⟨l.toArray⟩) (w.drew.freeze ⟨g, 0, none⟩ l.length) := by
    refine Lib.run_unsafeString_row w.drew 72 3 9 5 Tryd.underlying72 (by kernel_rfl) g cur.size (by have hg' : w.drew.heap[g]? = some (.cells cur 5 (0, 0)) := hg; simp [World.shape?, hg']) l h0 (by omega) (by unfold maxLen at hcm; omega) ?_
    intro j x hx
    have := World.ownsRow.cells (g := g) hown rfl j (.int .u8 x.toNat) (by simp [Pk.yc, hx]; rfl)
    exact this
  have hfz := (Pk.Chg.refl (fun k => k = g) w).drew.trans (freeze_chg w.drew g l.length) fun i _ e => e
  have hG : Box (Pk.Chg (fun k => (Value.slice (some ⟨g, 0, none⟩) l.length cap).ownBlock = some k) w (w.drew.freeze ⟨g, 0, none⟩ l.length)) := ⟨hfz.mono fun i _ e => by rw [e]; rfl⟩
  clear hfz htake hcs hg hown hk hk2 h hcm hnc
  go_enter Tryd.func32, Tryd.ntmps32
  go_wp2_with fail
  go_region
  all_goals (go_wp2_with fail; go_ret; exact ⟨rfl, hG.out⟩)
end Go.Proofs.YtdjppgmaokcgiaaDoor.Nt
