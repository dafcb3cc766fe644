/- The program's cell: its calls, as calls of a thing. -/
import Derived.Test.YtoaipjpbioaneaaGreatCeH
namespace Go.Proofs.YtoaipjpbioaneaaGreat
open Go.RowKit Go.Maps

set_option maxHeartbeats 800000 in
theorem commit_off (bc : Nat) (cs : List Value) (w : World) (hb : Blk w bc cs 69) (h9 : cs[9]? = some (.bool true)) :
    Calls Tryz.prog 11 #[.pointer (some ⟨bc, 0, none⟩)] w fun e w' => e = .returned (.int .i64 7) ∧ w = w' := by
  have c5 : w.cell? ⟨bc, 9, none⟩ = some (.bool true) := (hb.cell 9).trans h9
  clear hb h9
  go_enter Tryz.func11, Tryz.ntmps11
  go_wp2_with fail
  go_returns
  exact ⟨rfl, rfl⟩
set_option maxHeartbeats 3200000 in
set_option maxRecDepth 100000 in
theorem commit_long (bc bn bd at2 half : Nat) (u0 u1 u2 u3 u4 : Value) (now : Ct) (w : World) (hb : Blk w bc [.map (some bn), u0, u1, u2, u3, u4, .pointer (some ⟨bd, 0, none⟩), .int .i64 (at2 : Int), .int .i64 (half : Int), .bool false] 69) (hM : MapAt w bn now) (hok : now.ok) (h2 : 2 ≤ half ∧ half ≤ 4096) (hfit : 64 * (half - 1) < (bytesC now).length) :
    Calls Tryz.prog 11 #[.pointer (some ⟨bc, 0, none⟩)] w fun e w' => e = .returned (.int .i64 4) ∧ Box (Below w.heap.size w w') := by
  have hbl := hb.lt
  have hby := Box.mk (cbytes_any bn now w hM hok)
  obtain ⟨bs, hbs⟩ : ∃ bs, bytesC now = bs := ⟨_, rfl⟩
  rw [hbs] at hby hfit
  have c5 : w.cell? ⟨bc, 9, none⟩ = some (.bool false) := hb.cell 9
  have c0 : w.cell? ⟨bc, 0, none⟩ = some (.map (some bn)) := hb.cell 0
  replace hb := Box.mk hb
  clear hM hok hbs
  go_enter Tryz.func11, Tryz.ntmps11
  go_wp2_with fail
  refine hby.out.mono ?_
  rintro e w1 ⟨rfl, hB1⟩
  have hb1 : Blk w1 bc _ _ := (hB1.out.block _ hbl).trans hb.out
  clear hby c5 c0
  have d6 : w1.cell? ⟨bc, 6, none⟩ = some (.pointer (some ⟨bd, 0, none⟩)) := hb1.cell 6
  have d7 : w1.cell? ⟨bc, 7, none⟩ = some (.int .i64 (at2 : Int)) := hb1.cell 7
  have d8 : w1.cell? ⟨bc, 8, none⟩ = some (.int .i64 (half : Int)) := hb1.cell 8
  have hroom := Box.mk (room_any (.pointer (some ⟨bd, 0, none⟩)) (.int .i64 (at2 : Int)) half w1 (by omega) (by omega))
  have hsz : (btx bs).size = bs.length := mk_size bs
  have hlong : ((half : Int) - 1) * 64 < (bs.length : Int) := by omega
  replace hb1 := Box.mk hb1
  go_wp2_with fail
  refine hroom.out.mono ?_
  rintro e w2 ⟨rfl, hB2⟩
  have hB2' : Box (Below w.heap.size w w2) := ⟨hB1.out.trans (hB2.mono hB1.out.size)⟩
  clear hroom d6 d7 d8 hb1 hB1 hB2
  go_wp2_with fail
  go_returns
  exact ⟨rfl, hB2'⟩
theorem Good.pair2 {O1 O2 : Obj} (g1 : Good O1) (g2 : Good O2) : Good (Pair2 O1 O2) := Pair2.good g1 g2
theorem RetE.same {v : Value} {O : Obj} {w w' : World} {F : Nat → Prop} (g : Good O) (h : O w F) (hb : Below w.heap.size w w') : RetE v O (.returned v) w' (Ext F w w') ∧ Chg F w w' :=
  ⟨⟨rfl, (Ext.of_below g h hb).1⟩, (Ext.of_below g h hb).2⟩
theorem CelO.rest {bd bc base half : Nat} {M : CellM} {w w' : World} {F : Nat → Prop} {bn : Nat} {p : Option Nat} {S : Nat → Prop} {M' : CellM} (m : Nat) (h : CelO bd bc base half M w F) (hok : M'.ok base half) (hc : Chg S w w')
    (hb : Blk w' bc (cellCells bd bn p base half M') 69) (hM : MapAt w' bn M'.now) (hW : WasAt w' p M'.was) (hn : F bn ∨ m ≤ bn) (hp : ∀ b, p = some b → F b ∨ m ≤ b) (hne : p ≠ some bn) : CelO bd bc base half M' w' (fun k => F k ∨ (m ≤ k ∧ k < w'.heap.size)) :=
  ⟨hok, ⟨bn, p, hb, hM, hW, hn.imp id fun h => ⟨h, hM.lt⟩, fun b hb => (hp b hb).imp id fun h => ⟨h, hW.lt b hb⟩, hne⟩, .inl h.fc, fun k hk => by
    rcases hk with hk | hk
    · exact Nat.lt_of_lt_of_le (h.lt k hk) hc.size
    · exact hk.2⟩
theorem put_does (bd bc base half : Nat) (M : CellM) (s t : ByteArray) (hs : s.size ≤ maxLen) (ht : t.size ≤ maxLen) :
    Does 17 #[.pointer (some ⟨bc, 0, none⟩), .string s, .string t] (CelO bd bc base half M) (RetE (.int .i64 (putE M.now s.data.toList t.data.toList)) (CelO bd bc base half { M with now := putM M.now s.data.toList t.data.toList })) := by
  intro w F h
  obtain ⟨bn, p, hb, hM, hW, hFn, hFp, hne⟩ := h.out
  refine (put_map bc bn _ M.now s t w hb hM h.ok.now hs ht).mono fun e w' ⟨he, hL⟩ => ⟨⟨he, ?_⟩, hL.out.2.mono fun i _ hi => hi ▸ hFn⟩
  have hc := hL.out.2
  exact h.rest w.heap.size ⟨h.ok.now.put _ _, h.ok.was, h.ok.num, h.ok.last, h.ok.base, h.ok.half⟩ hc (hc.blk hb (fun e => hM.ne hb e.symm)) hL.out.1 (hW.chg hc fun b hb2 e => hne (by rw [hb2, e])) (.inl hFn) (fun b hb2 => .inl (hFp b hb2)) hne
theorem drop_does (bd bc base half : Nat) (M : CellM) (s : ByteArray) (hs : s.size ≤ maxLen) :
    Does 26 #[.pointer (some ⟨bc, 0, none⟩), .string s] (CelO bd bc base half M) (RetE (.bool (getC M.now s.data.toList).isSome) (CelO bd bc base half { M with now := dropC M.now s.data.toList })) := by
  intro w F h
  obtain ⟨bn, p, hb, hM, hW, hFn, hFp, hne⟩ := h.out
  refine (drop_map bc bn _ M.now s w hb hM hs).mono fun e w' ⟨he, hL⟩ => ⟨⟨he, ?_⟩, hL.out.2.mono fun i _ hi => hi ▸ hFn⟩
  have hc := hL.out.2
  exact h.rest w.heap.size ⟨h.ok.now.drop _, h.ok.was, h.ok.num, h.ok.last, h.ok.base, h.ok.half⟩ hc (hc.blk hb (fun e => hM.ne hb e.symm)) hL.out.1 (hW.chg hc fun b hb2 e => hne (by rw [hb2, e])) (.inl hFn) (fun b hb2 => .inl (hFp b hb2)) hne
theorem WasAt.ne {w : World} {p : Option Nat} {c : Ct} {bc : Nat} {cs : List Value} {t : TypeId} (h : WasAt w p c) (hb : Blk w bc cs t) : p ≠ some bc := by
  rintro rfl
  rcases h with ⟨h1, _⟩ | ⟨b', h1, h2⟩
  · cases h1
  · cases h1; exact h2.ne hb rfl
theorem undo_does (bd bc base half : Nat) (M : CellM) :
    Does 28 #[.pointer (some ⟨bc, 0, none⟩)] (CelO bd bc base half M) (RetE (.tuple #[]) (CelO bd bc base half { M with now := M.was })) := by
  intro w F h
  obtain ⟨bn, p, hb, hM, hW, hFn, hFp, hne⟩ := h.out
  refine (undo_map bc _ p _ M.was w hb hW (hW.ne hb) h.ok.was).mono fun e w' ⟨he, hL⟩ => ?_
  obtain ⟨b2, h1, h2, h3, hc⟩ := hL.out
  exact ⟨⟨he, h.rest w.heap.size ⟨h.ok.was, h.ok.was, h.ok.num, h.ok.last, h.ok.base, h.ok.half⟩ hc h3 h2 (hW.chg hc fun b hb2 e => hW.ne hb (by rw [hb2, e])) (.inr h1) (fun b hb2 => .inl (hFp b hb2)) (fun e => by have := hW.lt _ e; omega)⟩, hc.mono fun i _ hi => hi ▸ h.fc⟩
theorem get_does (bd bc base half : Nat) (M : CellM) (s : ByteArray) (hs : s.size ≤ maxLen) :
    Does 19 #[.pointer (some ⟨bc, 0, none⟩), .string s] (CelO bd bc base half M) (RetE (getV M.now s.data.toList) (CelO bd bc base half M)) := by
  intro w F h
  obtain ⟨bn, p, hb, hM, hW, hFn, hFp, hne⟩ := h.out
  exact (get_any bc bn _ M.now s w hb hM hs).mono fun e w' ⟨he, hB⟩ => ⟨he ▸ RetE.same (CelO.good _ _ _ _ _) h hB⟩
theorem num_does (bd bc base half : Nat) (M : CellM) :
    Does 9 #[.pointer (some ⟨bc, 0, none⟩)] (CelO bd bc base half M) (RetE (.int .i64 (M.num : Int)) (CelO bd bc base half M)) := by
  intro w F h
  obtain ⟨bn, p, hb, hM, hW, hFn, hFp, hne⟩ := h.out
  exact (num_any bc _ _ M.num _ w hb).mono fun e w' ⟨he, hB⟩ => ⟨he ▸ RetE.same (CelO.good _ _ _ _ _) h (hB ▸ Below.refl _ _)⟩
theorem commitC_ok {base half : Nat} {D : Dev} {M : CellM} (h : M.ok base half) (hn : M.num < 1000000) : (commitC base half D M).ok base half := by
  unfold commitC
  split
  · exact h
  · split
    · exact h
    · split
      · exact ⟨h.now, h.now, by show M.num + 1 ≤ _; omega, by show 1 - M.last ≤ 1; omega, h.base, h.half⟩
      · exact ⟨h.now, h.was, h.num, h.last, h.base, h.half⟩
theorem commit_does (bd bc base half : Nat) (D : Dev) (M : CellM) (hk : D.taken ≤ 100000) (hf : D.fall ≤ 9223372036854775807) (hws : D.ws.length ≤ 100000) (hnum : M.num < 1000000) :
    Does 11 #[.pointer (some ⟨bc, 0, none⟩)] (Pair2 (DevO bd D) (CelO bd bc base half M)) (RetE (.int .i64 (commitE base half D M)) (Pair2 (DevO bd (commitD base half D M)) (CelO bd bc base half (commitC base half D M)))) := by
  rintro w G ⟨F, F2, hD, h, hdis, e1, e2, hl⟩
  have gD := DevO.good bd D
  have gC := CelO.good bd bc base half M
  obtain ⟨bn, p, hb, hM, hW, hFn, hFp, hne⟩ := h.out
  have hCok := commitC_ok (D := D) h.ok hnum
  have hsame : ∀ w', Below w.heap.size w w' → Pair2 (DevO bd D) (CelO bd bc base half M) w' (Ext G w w') ∧ Chg G w w' := fun w' hB => Ext.of_below (gD.pair2 gC) ⟨F, F2, hD, h, hdis, e1, e2, hl⟩ hB
  cases hoff : M.off with
  | true =>
    have hE : commitE base half D M = 7 := by unfold commitE; rw [hoff, if_pos rfl]
    have hDd : commitD base half D M = D := by unfold commitD; rw [hoff, if_pos rfl]
    have hCc : commitC base half D M = M := by unfold commitC; rw [hoff, if_pos rfl]
    rw [hE, hDd, hCc]
    exact (commit_off bc _ w hb (by unfold cellCells; rw [hoff]; rfl)).mono fun e w' ⟨he, hB⟩ => ⟨⟨he, (hsame w' (hB ▸ Below.refl _ _)).1⟩, (hsame w' (hB ▸ Below.refl _ _)).2⟩
  | false =>
    by_cases hlong : 64 * (half - 1) < (bytesC M.now).length
    · have hE : commitE base half D M = 4 := by unfold commitE; rw [hoff, if_neg (by decide), if_pos hlong]
      have hDd : commitD base half D M = D := by unfold commitD; rw [hoff, if_neg (by decide), if_pos hlong]
      have hCc : commitC base half D M = M := by unfold commitC; rw [hoff, if_neg (by decide), if_pos hlong]
      rw [hE, hDd, hCc]
      unfold cellCells at hb
      rw [hoff] at hb
      exact (commit_long bc bn bd _ half _ _ _ _ _ M.now w hb hM h.ok.now h.ok.half hlong).mono fun e w' ⟨he, hB⟩ => ⟨⟨he, (hsame w' hB.out).1⟩, (hsame w' hB.out).2⟩
    · have hE : commitE base half D M = (commitM D (toC base half M.last) (hdr (M.num + 1) (bytesC M.now).length) (pieces M.now)).1 := by unfold commitE; rw [hoff, if_neg (by decide), if_neg hlong]
      have hDd : commitD base half D M = (commitM D (toC base half M.last) (hdr (M.num + 1) (bytesC M.now).length) (pieces M.now)).2 := by unfold commitD; rw [hoff, if_neg (by decide), if_neg hlong]
      have hCc : commitC base half D M = if (commitM D (toC base half M.last) (hdr (M.num + 1) (bytesC M.now).length) (pieces M.now)).1 = 0 then { M with was := M.now, num := M.num + 1, last := 1 - M.last } else { M with off := true } := by
        unfold commitC; rw [hoff, if_neg (by decide), if_neg hlong]
      refine (commit_go bd bc bn p base half F D M w hD hb hM hW ⟨fun hh => hdis _ hh h.fc, fun hh => hdis _ hh hFn, fun b hb2 hh => hdis _ hh (hFp b hb2)⟩ h.ok hoff (by omega) hk hf hws hnum).mono fun e w' ⟨he, hP⟩ => ?_
      obtain ⟨m, ⟨m1, m2, p1, p2⟩, p3, p4, p5⟩ := hP.out
      rw [← hE, ← hDd] at *
      have hcel : CelO bd bc base half (commitC base half D M) w' (fun k => F2 k ∨ (m ≤ k ∧ k < w'.heap.size)) := by
        rw [hCc] at hCok ⊢
        split at p5
        · next hz =>
          rw [if_pos hz] at hCok ⊢
          obtain ⟨b3, q1, q2, q3⟩ := p5
          exact h.rest m hCok p2 q2 p3 (.inr ⟨b3, rfl, q3⟩) (.inl hFn) (fun b hb2 => by cases hb2; exact .inr q1) (fun e => by
            have e1 : b3 = bn := by cases e; rfl
            have := hM.lt; omega)
        · next hz =>
          rw [if_neg hz] at hCok ⊢
          exact h.rest m hCok p2 p5 p3 p4 (.inl hFn) (fun b hb2 => .inl (hFp b hb2)) hne
      have hFl := hD.lt
      have hFl2 := h.lt
      refine ⟨⟨he, ⟨_, _, p1, hcel, fun k hk hk2 => ?_, fun k hk => ?_, fun k hk => ?_, fun k hk => ?_⟩⟩, p2.mono fun i _ hi => hi.elim (e1 i) fun hi => hi ▸ e2 _ h.fc⟩
      · rcases hk with hk | hk
        · rcases hk2 with hk2 | hk2
          · exact hdis k hk hk2
          · have := hFl k hk; omega
        · rcases hk2 with hk2 | hk2
          · have := hFl2 k hk2; omega
          · omega
      · exact hk.imp (e1 k) fun hk => ⟨hk.1, by omega⟩
      · exact hk.imp (e2 k) fun hk => ⟨by omega, hk.2⟩
      · rcases hk with hk | hk
        · exact Nat.lt_of_lt_of_le (hl k hk) p2.size
        · exact hk.2
end Go.Proofs.YtoaipjpbioaneaaGreat
