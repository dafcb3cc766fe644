/- The document's own device: its form in memory, its small calls. -/
import Derived.Test.YtcccokdbgmejdaaFcC
namespace Go.Proofs.Ytcccokdbgmejdaa
open Go.RowKit

def strs (s : List Sec) : List Value := s.map fun t => .string (bt t)
def wcs : List WrD → List Value
  | [] => []
  | x :: ws => .int .i64 (x.1 : Int) :: .string (bt x.2) :: wcs ws
theorem wcs_app : ∀ (a b : List WrD), wcs (a ++ b) = wcs a ++ wcs b
  | [], b => rfl
  | x :: a, b => by rw [List.cons_append, wcs, wcs, wcs_app a b]; rfl
theorem wcs_length : ∀ (a : List WrD), (wcs a).length = a.length * 2
  | [] => rfl
  | x :: a => by rw [wcs, List.length_cons, List.length_cons, wcs_length a, List.length_cons]; omega
theorem wcs_get : ∀ (a : List WrD) (i : Nat) (h : i < a.length), (wcs a)[i * 2]? = some (.int .i64 ((a[i]).1 : Int)) ∧ (wcs a)[i * 2 + 1]? = some (.string (bt (a[i]).2))
  | [], i, h => by cases h
  | x :: a, 0, _ => ⟨rfl, rfl⟩
  | x :: a, i + 1, h => by
    have := wcs_get a i (by simpa using h)
    rw [show (i + 1) * 2 = i * 2 + 2 by omega, show i * 2 + 2 + 1 = i * 2 + 1 + 2 by omega]
    exact this
theorem strs_get (s : List Sec) (i : Nat) (h : i < s.length) : (strs s)[i]? = some (.string (bt (s.getD i zeroS))) := by
  unfold strs
  rw [List.getElem?_map, List.getElem?_eq_getElem h, List.getD_eq_getElem?_getD, List.getElem?_eq_getElem h]; rfl
/-- The document's device at bw holds D. -/
structure QAt (w : World) (bw : Nat) (F : Nat → Prop) (D : Dev) : Prop where
  ok : D.ok
  out : ∃ vs vp, Blk w bw [vs, vp, .int .i64 (D.taken : Int), .int .i64 (D.fall : Int), .bool D.off] 66 ∧ Row w 9 1 vs D.safe.length (strs D.safe) ∧ Row w 84 2 vp D.ws.length (wcs D.ws) ∧ (∀ k, vs.ownBlock = some k → F k) ∧ (∀ k, vp.ownBlock = some k → F k)
  fd : F bw
  lt : ∀ k, F k → k < w.heap.size
theorem QAt.chg {S : Nat → Prop} {w w' : World} {bw : Nat} {F : Nat → Prop} {D : Dev} (h : QAt w bw F D) (hc : Chg S w w') (hn : ∀ k, F k → ¬ S k) : QAt w' bw F D := by
  obtain ⟨vs, vp, hb, hs, hp, h1, h2⟩ := h.out
  exact ⟨h.ok, ⟨vs, vp, hc.blk hb (hn _ h.fd), hs.chg hc fun k hk => hn k (h1 k hk), hp.chg hc fun k hk => hn k (h2 k hk), h1, h2⟩, h.fd, fun k hk => Nat.lt_of_lt_of_le (h.lt k hk) hc.size⟩
theorem QAt.below {w w' : World} {bw : Nat} {F : Nat → Prop} {D : Dev} (h : QAt w bw F D) (hb : Below w.heap.size w w') : QAt w' bw F D := h.chg (Chg.of_below hb) fun k hk => by have := h.lt k hk; omega
/-- What a call of a device leaves. -/
structure QNext (w : World) (bw : Nat) (F : Nat → Prop) (D : Dev) (w' : World) : Prop where
  at_ : QAt w' bw (fun k => F k ∨ (w.heap.size ≤ k ∧ k < w'.heap.size)) D
  chg : Chg F w w'
theorem QAt.wide {w : World} {bw : Nat} {F G : Nat → Prop} {D : Dev} (h : QAt w bw F D) (hG : ∀ k, F k → G k) (hl : ∀ k, G k → k < w.heap.size) : QAt w bw G D := by
  obtain ⟨vs, vp, hb, hs, hp, h1, h2⟩ := h.out
  exact ⟨h.ok, ⟨vs, vp, hb, hs, hp, fun k hk => hG k (h1 k hk), fun k hk => hG k (h2 k hk)⟩, hG _ h.fd, hl⟩
theorem QNext.same {w : World} {bw : Nat} {F : Nat → Prop} {D : Dev} (h : QAt w bw F D) : QNext w bw F D w :=
  ⟨h.wide (fun _ hk => .inl hk) fun k hk => by rcases hk with hk | hk; exact h.lt k hk; exact hk.2, Chg.refl _ _⟩

/-- Three numbers: what a step changes. -/
theorem QAt.three {w w' : World} {bw : Nat} {F : Nat → Prop} {D D' : Dev} (h : QAt w bw F D) (hs : D'.safe = D.safe) (hw : D'.ws = D.ws)
    (hb : ∀ vs vp, Blk w bw [vs, vp, .int .i64 (D.taken : Int), .int .i64 (D.fall : Int), .bool D.off] 66 → Blk w' bw [vs, vp, .int .i64 (D'.taken : Int), .int .i64 (D'.fall : Int), .bool D'.off] 66)
    (hc : Chg (fun k => k = bw) w w') : QAt w' bw F D' := by
  obtain ⟨vs, vp, hb0, h1, h2, h3, h4⟩ := h.out
  refine ⟨⟨hs ▸ h.ok.s, by rw [hs, hw]; exact h.ok.w, by rw [hs]; exact h.ok.n⟩, ⟨vs, vp, hb vs vp hb0, ?_, ?_, h3, h4⟩, h.fd, fun k hk => Nat.lt_of_lt_of_le (h.lt k hk) hc.size⟩
  · rw [hs]
    exact h1.chg hc fun k hk => by rintro rfl; exact h1.apart hb0 (by decide) hk
  · rw [hw]
    exact h2.chg hc fun k hk => by rintro rfl; exact h2.apart hb0 (by decide) hk
set_option maxHeartbeats 400000 in
theorem qin_any (bw : Nat) (F : Nat → Prop) (D : Dev) (n : Int) (w : World) (h : QAt w bw F D) :
    Calls Try.prog 42 #[.pointer (some ⟨bw, 0, none⟩), .int .i64 n] w fun e w' => e = .returned (.int .i64 (D.refused n)) ∧ w = w' := by
  obtain ⟨vs, vp, hb, hs, _, _, _⟩ := h.out
  obtain ⟨a, c, rfl⟩ := hs.shape
  have c4 : w.cell? ⟨bw, 4, none⟩ = some (.bool D.off) := hb.cell 4
  have c0 : w.cell? ⟨bw, 0, none⟩ = some (.slice a D.safe.length c) := hb.cell 0
  unfold Dev.refused
  generalize D.off = off at *
  generalize D.safe.length = N at *
  clear hb hs h
  cases off
  · by_cases hn : n < 0
    · go_enter Try.func42, Try.ntmps42
      go_wp2
      go_ret
      exact ⟨ret_i (by simp), rfl⟩
    · by_cases hN : (N : Int) ≤ n
      · go_enter Try.func42, Try.ntmps42
        go_wp2
        go_ret
        exact ⟨ret_i (by simp), rfl⟩
      · go_enter Try.func42, Try.ntmps42
        go_wp2
        go_ret
        exact ⟨ret_i (by simp), rfl⟩
  · go_enter Try.func42, Try.ntmps42
    go_wp2
    go_ret
    exact ⟨ret_i (by simp), rfl⟩
set_option maxHeartbeats 800000 in
theorem qstep_any (bw : Nat) (F : Nat → Prop) (D : Dev) (w : World) (h : QAt w bw F D) (ht : D.taken ≤ 1000000) (hf : D.fall ≤ 9223372036854775807) :
    Calls Try.prog 40 #[.pointer (some ⟨bw, 0, none⟩)] w fun e w' => e = .returned (.int .i64 (if D.goes then 0 else 7)) ∧ QAt w' bw F D.stepD ∧ Chg (fun k => k = bw) w w' ∧ w'.heap.size = w.heap.size := by
  obtain ⟨vs, vp, hb, _, _, _, _⟩ := h.out
  have c2 : w.cell? ⟨bw, 2, none⟩ = some (.int .i64 (D.taken : Int)) := hb.cell 2
  have c3 : w.cell? ⟨bw, 3, none⟩ = some (.int .i64 (D.fall : Int)) := hb.cell 3
  have c4 : w.cell? ⟨bw, 4, none⟩ = some (.bool D.off) := hb.cell 4
  have f2 := hb.free 2
  have f3 := hb.free 3
  have f4 := hb.free 4
  clear hb
  by_cases h1 : D.fall = 1
  · have hg : D.goes = false := by simp [Dev.goes, h1]
    have hS : D.stepD = { D with fall := 0, off := true } := by simp [Dev.stepD, h1]
    have hd : (((D.fall : Nat) : Int) == 1) = true := by rw [h1]; rfl
    have hR : QAt ((w.setCell ⟨bw, 3, none⟩ (.int .i64 0)).setCell ⟨bw, 4, none⟩ (.bool true)) bw F D.stepD := by
      refine h.three (by rw [hS]) (by rw [hS]) (fun vs vp hb => ?_) ?_
      · rw [hS]; exact (hb.setCell 3 (.int .i64 0)).setCell 4 (.bool true)
      · exact chg2 _ _ _ _ _ _
    have hC : Chg (fun k => k = bw) w ((w.setCell ⟨bw, 3, none⟩ (.int .i64 0)).setCell ⟨bw, 4, none⟩ (.bool true)) := chg2 _ _ _ _ _ _
    rw [hg]
    replace hR := Box.mk hR
    replace hC := Box.mk hC
    replace hg := Box.mk hg
    replace hS := Box.mk hS
    replace h1 := Box.mk h1
    replace h := Box.mk h
    generalize D.fall = fl at *
    generalize D.taken = tk at *
    generalize D.off = of at *
    obtain rfl : fl = 1 := h1.out
    clear hd
    go_enter Try.func40, Try.ntmps40
    go_wp2
    go_ret
    exact ⟨rfl, hR.out, hC.out, by simp⟩
  · have hg : D.goes = true := by simp [Dev.goes, h1]
    have hS : D.stepD = { D with fall := D.fall - 1, taken := D.taken + 1 } := by simp [Dev.stepD, h1]
    have hR0 : D.fall = 0 → QAt (w.setCell ⟨bw, 2, none⟩ (.int .i64 ((D.taken : Int) + 1))) bw F D.stepD := fun h0 => by
      refine h.three (by rw [hS]) (by rw [hS]) (fun vs vp hb => ?_) (chg1 _ _ _ _)
      rw [hS]
      have := hb.setCell 2 (.int .i64 ((D.taken : Int) + 1))
      simp only [h0] at this ⊢
      exact this
    have hR : QAt ((w.setCell ⟨bw, 3, none⟩ (.int .i64 ((D.fall - 1 : Nat) : Int))).setCell ⟨bw, 2, none⟩ (.int .i64 ((D.taken : Int) + 1))) bw F D.stepD := by
      refine h.three (by rw [hS]) (by rw [hS]) (fun vs vp hb => ?_) ?_
      · rw [hS]; exact (hb.setCell 3 _).setCell 2 _
      · exact chg2 _ _ _ _ _ _
    have hC : Chg (fun k => k = bw) w ((w.setCell ⟨bw, 3, none⟩ (.int .i64 ((D.fall - 1 : Nat) : Int))).setCell ⟨bw, 2, none⟩ (.int .i64 ((D.taken : Int) + 1))) := chg2 _ _ _ _ _ _
    rw [hg]
    replace hR := Box.mk hR
    replace hC := Box.mk hC
    replace hg := Box.mk hg
    replace hS := Box.mk hS
    replace h := Box.mk h
    generalize D.fall = fl at *
    generalize D.taken = tk at *
    generalize D.off = of at *
    by_cases h0 : fl = 0
    · subst h0
      replace hR0 := Box.mk (hR0 rfl)
      have hC0 := Box.mk (chg1 w bw 2 (.int .i64 ((tk : Int) + 1)))
      clear hR hC
      go_enter Try.func40, Try.ntmps40
      go_wp2
      go_ret
      exact ⟨rfl, hR0.out, hC0.out, by simp⟩
    · clear hR0
      have hd : ((fl : Int) == 1) = false := by rw [beq_eq_false_iff_ne]; omega
      have h2 : 2 ≤ fl := by omega
      have he : ((fl - 1 : Nat) : Int) = (fl : Int) - 1 := by omega
      rw [he] at hR hC
      clear he
      go_enter Try.func40, Try.ntmps40
      go_wp2
      go_ret
      exact ⟨rfl, hR.out, hC.out, by simp⟩

set_option maxHeartbeats 400000 in
theorem qfall_any (bw : Nat) (F : Nat → Prop) (D : Dev) (n : Int) (w : World) (h : QAt w bw F D) (hn : -9223372036854775808 ≤ n ∧ n ≤ 9223372036854775807) :
    Calls Try.prog 30 #[.pointer (some ⟨bw, 0, none⟩), .int .i64 n] w fun e w' => e = .returned (.tuple #[]) ∧ QAt w' bw F (D.falls n) ∧ Chg (fun k => k = bw) w w' := by
  obtain ⟨vs, vp, hb, _, _, _, _⟩ := h.out
  have c3 : w.cell? ⟨bw, 3, none⟩ = some (.int .i64 (D.fall : Int)) := hb.cell 3
  have f3 := hb.free 3
  clear hb
  have hR : QAt (w.setCell ⟨bw, 3, none⟩ (.int .i64 (max n 0))) bw F (D.falls n) :=
    h.three rfl rfl (fun vs vp hb => by
      have := hb.setCell 3 (.int .i64 (max n 0))
      simpa [Dev.falls, show ((max n 0).toNat : Int) = max n 0 by omega] using this) (chg1 _ _ _ _)
  have hC := chg1 w bw 3 (.int .i64 (max n 0))
  replace h := Box.mk h
  by_cases h0 : n < 0
  · rw [Int.max_eq_right (by omega)] at hR hC
    replace hR := Box.mk hR
    replace hC := Box.mk hC
    go_enter Try.func30, Try.ntmps30
    go_wp2
    go_returns
    exact ⟨rfl, hR.out, hC.out⟩
  · rw [Int.max_eq_left (by omega)] at hR hC
    replace hR := Box.mk hR
    replace hC := Box.mk hC
    go_enter Try.func30, Try.ntmps30
    go_wp2
    go_returns
    exact ⟨rfl, hR.out, hC.out⟩
end Go.Proofs.Ytcccokdbgmejdaa
