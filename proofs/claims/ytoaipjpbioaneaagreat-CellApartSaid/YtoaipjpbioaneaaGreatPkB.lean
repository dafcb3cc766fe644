/- Walks of a writer's calls. -/
import Derived.Test.YtoaipjpbioaneaaGreatPkA
namespace Go.Proofs.YtoaipjpbioaneaaGreat
open Go.RowKit

/-- A writer in block b: what it has laid, whether it is spoilt. v: its slice. -/
structure WAt (w : World) (b : Nat) (t : TypeId) (v : Value) (l : List UInt8) (bad : Bool) : Prop where
  blk : Blk w b [v, .bool bad] t
  own : Own w v l
/-- What a writer's call leaves. -/
structure WNext (w : World) (b : Nat) (t : TypeId) (v : Value) (l : List UInt8) (bad : Bool) (w' : World) : Prop where
  out : ∃ v', WAt w' b t v' l bad ∧ Chg (fun k => k = b ∨ v.ownBlock = some k) w w' ∧ ∀ k, v'.ownBlock = some k → v.ownBlock = some k ∨ w.heap.size ≤ k
theorem WAt.drew {w : World} {b : Nat} {t : TypeId} {v : Value} {l : List UInt8} {bad : Bool} (h : WAt w b t v l bad) : WAt w.drew b t v l bad := ⟨h.blk, h.own⟩
theorem WAt.chg {S : Nat → Prop} {w w' : World} {b : Nat} {t : TypeId} {v : Value} {l : List UInt8} {bad : Bool} (h : WAt w b t v l bad) (hc : Chg S w w') (h1 : ¬ S b) (h2 : ∀ k, v.ownBlock = some k → ¬ S k) : WAt w' b t v l bad := ⟨hc.blk h.blk h1, h.own.chg hc h2⟩
theorem WAt.alloc {w : World} {b : Nat} {t : TypeId} {v : Value} {l : List UInt8} {bad : Bool} (h : WAt w b t v l bad) (o : Obj) : WAt (w.alloc o) b t v l bad := h.chg (S := fun _ => False) ((Chg.refl _ _).alloc o) (fun h => h) (fun _ _ h => h)
theorem WNext.same {w : World} {b : Nat} {t : TypeId} {v : Value} {l : List UInt8} {bad : Bool} (h : WAt w b t v l bad) : WNext w b t v l bad w := ⟨⟨v, h, Chg.refl _ _, fun _ hk => .inl hk⟩⟩
theorem WAt.setBad {w : World} {b : Nat} {t : TypeId} {v : Value} {l : List UInt8} {bad : Bool} (h : WAt w b t v l bad) (ht : t ≠ 5) (bad' : Bool) : WAt (w.setCell ⟨b, 1, none⟩ (.bool bad')) b t v l bad' :=
  ⟨h.blk.setCell 1 (.bool bad'), h.own.kept fun k hk => Below.heap_setCell _ _ _ _ fun e => h.own.apart h.blk ht (by rw [hk, e])⟩
theorem WNext.setBad {w : World} {b : Nat} {t : TypeId} {v : Value} {l : List UInt8} {bad : Bool} (h : WAt w b t v l bad) (ht : t ≠ 5) (bad' : Bool) : WNext w b t v l bad' (w.setCell ⟨b, 1, none⟩ (.bool bad')) :=
  ⟨⟨v, h.setBad ht bad', (Chg.refl _ _).setCell (.inl rfl) _, fun _ hk => .inl hk⟩⟩
theorem WNext.trans {w w1 w2 : World} {b : Nat} {t : TypeId} {v v1 : Value} {l1 l2 : List UInt8} {bad bad2 : Bool} (_h1 : WAt w1 b t v1 l1 bad) (c1 : Chg (fun k => k = b ∨ v.ownBlock = some k) w w1) (p1 : ∀ k, v1.ownBlock = some k → v.ownBlock = some k ∨ w.heap.size ≤ k)
    (h2 : WNext w1 b t v1 l2 bad2 w2) : WNext w b t v l2 bad2 w2 := by
  obtain ⟨v2, a2, c2, p2⟩ := h2.out
  refine ⟨⟨v2, a2, c1.trans c2 (fun i hi => ?_), fun k hk => ?_⟩⟩
  · rintro (h | h)
    · exact .inl h
    · rcases p1 i h with h | h
      · exact .inr h
      · omega
  · rcases p2 k hk with h | h
    · exact p1 k h
    · have := c1.size; exact .inr (by omega)
/-- A push stored back. -/
theorem WAt.store {w w1 : World} {b : Nat} {t : TypeId} {v v' : Value} {l l' : List UInt8} {bad : Bool} (h : WAt w b t v l bad) (ht : t ≠ 5) (hp : Pushed w v l' v' w1) : WNext w b t v l' bad (w1.setCell ⟨b, 0, none⟩ v') := by
  have hb1 : Blk w1 b [v, .bool bad] t := hp.chg.blk h.blk (h.own.apart h.blk ht)
  refine ⟨⟨v', ⟨hb1.setCell 0 v', hp.own.kept fun k hk => Below.heap_setCell _ _ _ _ fun e => hp.own.apart hb1 ht (by rw [hk, e])⟩, ?_, hp.place⟩⟩
  exact (hp.chg.mono (fun i _ hi => .inr hi)).setCell (.inl rfl) _

set_option maxHeartbeats 400000 in
theorem takes_nil (f : Bool) (w : World) :
    Calls Tryz.prog 81 #[.pointer none, .bool f] w fun e w' => e = .returned (.bool false) ∧ w = w' := by
  go_enter Tryz.func81, Tryz.ntmps81
  go_wp2
  go_returns
  exact ⟨rfl, rfl⟩
set_option maxHeartbeats 400000 in
theorem takes_fit (b : Nat) (v : Value) (bad : Bool) (w : World) (hb : Blk w b [v, .bool bad] 112) :
    Calls Tryz.prog 81 #[.pointer (some ⟨b, 0, none⟩), .bool true] w fun e w' => e = .returned (.bool (!bad)) ∧ w = w' := by
  have c1 : w.cell? ⟨b, 1, none⟩ = some (.bool bad) := hb.cell 1
  clear hb
  go_enter Tryz.func81, Tryz.ntmps81
  go_wp2
  go_returns
  exact ⟨rfl, rfl⟩
set_option maxHeartbeats 400000 in
theorem takes_bad (b : Nat) (v : Value) (bad : Bool) (w : World) (hb : Blk w b [v, .bool bad] 112) :
    Calls Tryz.prog 81 #[.pointer (some ⟨b, 0, none⟩), .bool false] w fun e w' => e = .returned (.bool false) ∧ w.setCell ⟨b, 1, none⟩ (.bool true) = w' := by
  have c1 : w.cell? ⟨b, 1, none⟩ = some (.bool bad) := hb.cell 1
  have f1 := hb.free 1
  clear hb
  go_enter Tryz.func81, Tryz.ntmps81
  go_wp2
  go_returns
  exact ⟨rfl, rfl⟩

theorem step_push {w : World} {ops : Array Oper} {o : Oper} {a : Act} {K : Act → World → Prop} {Q : Exit → Act → World → Prop} {E : Prop} (hg : o.guard = none) (s x : Operand)
    (ho : o.op = .call { callee := .builtin .append, args := #[s, x], argTypes := #[84, 84] }) (v : Value) (l : List UInt8) (hs : a.eval s = v)
    (hO : Own w v l) (g0 c0 : Nat) (news : List UInt8) (hx : a.eval x = .slice (some ⟨g0, 0, none⟩) news.length c0) (hn : ∀ j, j < news.length → w.cell? ⟨g0, j, none⟩ = (news.map yc)[j]?) (hlen : l.length + news.length ≤ 70368744177664)
    (h : ∀ v' w', Pushed w v (l ++ news) v' w' → K (a.put o.dst v') w') : if Region.wanted o (yielded ops a.tmps) = true then Oper.wp Tryz.prog o a w K Q else E := by
  have hw : Region.wanted o (yielded ops a.tmps) = true := by simp [Region.wanted, hg]
  rw [if_pos hw]
  exact wp_pushB s x ho v l hs hO g0 c0 news hx hn hlen h

set_option maxHeartbeats 800000 in
set_option maxRecDepth 100000 in
theorem number_nil (n : Int) (k : Nat) (w : World) (hk : k ≤ 8) :
    Calls Tryz.prog 78 #[.pointer none, .int .i64 n, .int .i64 (k : Int)] w fun e w' => e = .returned (.tuple #[]) ∧ w = w' := by
  have hT := fun f => takes_nil f w
  by_cases h0 : 0 ≤ n
  all_goals
    go_enter Tryz.func78, Tryz.ntmps78
    go_wp2_with fail
    refine (hT _).mono ?_
    rintro e w' ⟨rfl, rfl⟩
    go_wp2_with fail
    go_returns
    exact ⟨rfl, rfl⟩
/-- Is n a number of k bytes? -/
def fits (n : Int) (k : Nat) : Bool := decide (0 ≤ n ∧ n / 2 ^ (8 * k) = 0)
set_option maxHeartbeats 800000 in
set_option maxRecDepth 100000 in
theorem number_bad (b : Nat) (v : Value) (bad : Bool) (n : Int) (k : Nat) (w : World) (hk : k ≤ 8) (hb : Blk w b [v, .bool bad] 112) (hf : fits n k = false) :
    Calls Tryz.prog 78 #[.pointer (some ⟨b, 0, none⟩), .int .i64 n, .int .i64 (k : Int)] w fun e w' => e = .returned (.tuple #[]) ∧ w.setCell ⟨b, 1, none⟩ (.bool true) = w' := by
  have hT := takes_bad b v bad w hb
  by_cases h0 : 0 ≤ n
  · have h1 : (n / 2 ^ (8 * k) == 0) = false := by simpa [fits, h0] using hf
    replace h1 := Box.mk h1
    go_enter Tryz.func78, Tryz.ntmps78
    go_wp2_with fail
    rw [h1.out]
    refine hT.mono ?_
    rintro e w' ⟨rfl, rfl⟩
    go_wp2_with fail
    go_returns
    exact ⟨rfl, rfl⟩
  · go_enter Tryz.func78, Tryz.ntmps78
    go_wp2_with fail
    refine hT.mono ?_
    rintro e w' ⟨rfl, rfl⟩
    go_wp2_with fail
    go_returns
    exact ⟨rfl, rfl⟩
set_option maxHeartbeats 800000 in
set_option maxRecDepth 100000 in
theorem number_spoilt (b : Nat) (v : Value) (n : Int) (k : Nat) (w : World) (hk : k ≤ 8) (hb : Blk w b [v, .bool true] 112) (hf : fits n k = true) :
    Calls Tryz.prog 78 #[.pointer (some ⟨b, 0, none⟩), .int .i64 n, .int .i64 (k : Int)] w fun e w' => e = .returned (.tuple #[]) ∧ w = w' := by
  have hT := takes_fit b v true w hb
  obtain ⟨h0, h1⟩ : 0 ≤ n ∧ n / 2 ^ (8 * k) = 0 := by simpa [fits] using hf
  replace h1 := Box.mk (show (n / 2 ^ (8 * k) == 0) = true by simp [h1])
  go_enter Tryz.func78, Tryz.ntmps78
  go_wp2_with fail
  rw [h1.out]
  refine hT.mono ?_
  rintro e w' ⟨rfl, rfl⟩
  go_wp2_with fail
  go_returns
  exact ⟨rfl, rfl⟩
set_option maxHeartbeats 1600000 in
set_option maxRecDepth 100000 in
theorem number_fit (b : Nat) (v : Value) (l : List UInt8) (n k : Nat) (w : World) (hk : k ≤ 8) (hW : WAt w b 112 v l false) (hf : fits n k = true) (hlen : l.length ≤ 35184372088832) :
    Calls Tryz.prog 78 #[.pointer (some ⟨b, 0, none⟩), .int .i64 (n : Int), .int .i64 (k : Int)] w fun e w' => e = .returned (.tuple #[]) ∧ WNext w b 112 v (l ++ beN n k) false w' := by
  have hT := takes_fit b v false w hW.blk
  obtain ⟨h0, h1⟩ : 0 ≤ (n : Int) ∧ (n : Int) / 2 ^ (8 * k) = 0 := by simpa [fits] using hf
  replace h1 := Box.mk (show ((n : Int) / 2 ^ (8 * k) == 0) = true by simp [h1])
  replace hW := Box.mk hW
  go_enter Tryz.func78, Tryz.ntmps78
  go_wp2_with fail
  rw [h1.out]
  refine hT.mono ?_
  rintro e w' ⟨rfl, rfl⟩
  clear hT
  go_wp2_with fail
  go_loopw [6] (fun q wr => ∃ (i : Nat) (p : List UInt8), i ≤ k ∧ q = .int .i64 ((i : Int) - 1) ∧ Box (p ++ beN n i = l ++ beN n k) ∧ Box (p.length + i = l.length + k) ∧ Box (WNext w b 112 v p false wr)) (fun q _ => (intOf q + 1).toNat)
  case atStart => exact ⟨k, l, Nat.le_refl _, rfl, ⟨rfl⟩, ⟨rfl⟩, ⟨WNext.same hW.out⟩⟩
  case round =>
    clear hW
    obtain ⟨i, p, hi, rfl, hp, hpl, hN⟩ := hrel
    by_cases hi0 : 0 < i
    · obtain ⟨j, rfl⟩ : ∃ j, i = j + 1 := ⟨i - 1, by omega⟩
      obtain ⟨d, hd⟩ : ∃ d, UInt8.ofNat (n / 2 ^ (8 * j) % 256) = d := ⟨_, rfl⟩
      have hcv : (n : Int) / 2 ^ (8 * j) % 256 = (d.toNat : Int) := by
        rw [← hd, UInt8.toNat_ofNat']
        have h1 : n / 2 ^ (8 * j) % 256 % 2 ^ 8 = n / 2 ^ (8 * j) % 256 := Nat.mod_eq_of_lt (by omega)
        rw [h1]; simp
      replace hd := Box.mk hd
      obtain ⟨v1, hA, hC, hP⟩ := hN.out.out
      clear hN
      obtain ⟨a1, c1, rfl⟩ := hA.own.shape
      have k0 : wr.cell? ⟨b, 0, none⟩ = some (.slice a1 p.length c1) := hA.blk.cell 0
      have hlt := hA.blk.lt
      have hA2 : WAt (wr.alloc (.cells #[Value.int .u8 (d.toNat : Int)] 5)).drew b 112 (.slice a1 p.length c1) p false := (hA.alloc _).drew
      have hC2 := (hC.alloc (.cells #[Value.int .u8 (d.toNat : Int)] 5)).drew
      have hnw : Box (∀ j, j < [d].length → (wr.alloc (.cells #[Value.int .u8 (d.toNat : Int)] 5)).drew.cell? ⟨wr.heap.size, j, none⟩ = ([d].map yc)[j]?) := ⟨byte_new wr d⟩
      have hcap : Box (p.length + [d].length ≤ 70368744177664) := ⟨by have := hpl.out; simp only [List.length_cons, List.length_nil]; omega⟩
      have hbt := hA2.blk
      have hO2 := Box.mk hA2.own
      replace hA2 := Box.mk hA2
      replace hC2 := Box.mk hC2
      replace hP := Box.mk hP
      have hne := Box.mk (hA2.out.own.apart hA2.out.blk (by decide))
      have hbt := Box.mk hA2.out.blk
      clear hA hC
      have hw8 : IntKind.i64.wrap (8 * (j : Int)) = 8 * (j : Int) := by rw [IntKind.wrap_i64]; omega
      have hcv2 : IntKind.u8.wrap ((n : Int) / 2 ^ (8 * (j : Int)).toNat) = (d.toNat : Int) := by
        rw [IntKind.wrap_u8, show (8 * (j : Int)).toNat = 8 * j by omega]; exact hcv
      have h80 : ¬ (8 * (j : Int) < 0) := by omega
      go_wp2_with fail
      go_region_law (refine step_push rfl (.tmp 29) (.tmp 35) rfl (.slice a1 p.length c1) p rfl hO2.out wr.heap.size 1 [d] rfl hnw.out hcap.out ?_; intro v2 w2 hp2; obtain ⟨a2, c2, rfl⟩ := hp2.own.shape; have k1 := hp2.chg.blk hbt.out hne.out; have k2 : w2.cell? ⟨b, 0, none⟩ = some (.slice a1 p.length c1) := k1.cell 0; have k3 := k1.free 0; replace hp2 := Box.mk hp2; clear k1)
      all_goals
        have hS := WNext.trans hA2.out hC2.out hP.out (hA2.out.store (by decide) hp2.out)
        rw [show (p ++ [d]).length = p.length + 1 by simp] at hS
        replace hS := Box.mk hS
        go_wp2_with fail
        have hm : (intOf (Value.int IntKind.i64 ((j : Int) - 1)) + 1).toNat < (intOf (Value.int IntKind.i64 (((j + 1 : Nat) : Int) - 1)) + 1).toNat := by simp [intOf]
        refine ⟨⟨j, p ++ [d], by omega, by go_num, ⟨?_⟩, ⟨?_⟩, ⟨hS.out⟩⟩, hm⟩
        · rw [← hp.out, beN, hd.out, List.append_assoc]; rfl
        · have := hpl.out; rw [List.length_append]; simp only [List.length_cons, List.length_nil]; omega
    · obtain rfl : i = 0 := by omega
      have hp' := hp.out
      rw [beN, List.append_nil] at hp'
      rw [hp'] at hN
      go_wp2_with fail
      go_returns
      exact ⟨rfl, hN.out⟩

/-- What a call of a writer leaves: ok: can it be laid? -/
def lays (ok : Bool) (s l : List UInt8) (bad : Bool) : List UInt8 := if bad || !ok then l else l ++ s
theorem number_any (b : Nat) (v : Value) (l : List UInt8) (bad : Bool) (n : Int) (k : Nat) (w : World) (hk : k ≤ 8) (hW : WAt w b 112 v l bad) (hlen : l.length ≤ 35184372088832) :
    Calls Tryz.prog 78 #[.pointer (some ⟨b, 0, none⟩), .int .i64 n, .int .i64 (k : Int)] w fun e w' => e = .returned (.tuple #[]) ∧ WNext w b 112 v (lays (fits n k) (beN n.toNat k) l bad) (bad || !fits n k) w' := by
  cases hf : fits n k with
  | false => exact (number_bad b v bad n k w hk hW.blk hf).mono fun e w' ⟨he, hw⟩ => ⟨he, by subst hw; simpa [lays] using WNext.setBad hW (by decide) true⟩
  | true =>
    cases bad with
    | true => exact (number_spoilt b v n k w hk hW.blk hf).mono fun e w' ⟨he, hw⟩ => ⟨he, by subst hw; simpa [lays] using WNext.same hW⟩
    | false =>
      obtain ⟨m, rfl⟩ : ∃ m : Nat, n = m := ⟨n.toNat, by simp [fits] at hf; omega⟩
      exact (number_fit b v l m k w hk hW hf hlen).mono fun e w' ⟨he, hn⟩ => ⟨he, by simpa [lays] using hn⟩
theorem two_any (b : Nat) (v : Value) (l : List UInt8) (bad : Bool) (n : Int) (w : World) (hW : WAt w b 112 v l bad) (hlen : l.length ≤ 35184372088832) :
    Calls Tryz.prog 56 #[.pointer (some ⟨b, 0, none⟩), .int .i64 n] w fun e w' => e = .returned (.tuple #[]) ∧ WNext w b 112 v (lays (fits n 2) (beN n.toNat 2) l bad) (bad || !fits n 2) w' := by
  have hN := number_any b v l bad n 2 w (by omega) hW hlen
  clear hW
  go_enter Tryz.func56, Tryz.ntmps56
  go_wp2_with fail
  refine hN.mono ?_
  rintro e w' ⟨rfl, h⟩
  go_wp2_with fail
  go_returns
  exact ⟨rfl, h⟩
theorem four_any (b : Nat) (v : Value) (l : List UInt8) (bad : Bool) (n : Int) (w : World) (hW : WAt w b 112 v l bad) (hlen : l.length ≤ 35184372088832) :
    Calls Tryz.prog 61 #[.pointer (some ⟨b, 0, none⟩), .int .i64 n] w fun e w' => e = .returned (.tuple #[]) ∧ WNext w b 112 v (lays (fits n 4) (beN n.toNat 4) l bad) (bad || !fits n 4) w' := by
  have hN := number_any b v l bad n 4 w (by omega) hW hlen
  clear hW
  go_enter Tryz.func61, Tryz.ntmps61
  go_wp2_with fail
  refine hN.mono ?_
  rintro e w' ⟨rfl, h⟩
  go_wp2_with fail
  go_returns
  exact ⟨rfl, h⟩
theorem eight_any (b : Nat) (v : Value) (l : List UInt8) (bad : Bool) (n : Int) (w : World) (hW : WAt w b 112 v l bad) (hlen : l.length ≤ 35184372088832) :
    Calls Tryz.prog 60 #[.pointer (some ⟨b, 0, none⟩), .int .i64 n] w fun e w' => e = .returned (.tuple #[]) ∧ WNext w b 112 v (lays (fits n 8) (beN n.toNat 8) l bad) (bad || !fits n 8) w' := by
  have hN := number_any b v l bad n 8 w (by omega) hW hlen
  clear hW
  go_enter Tryz.func60, Tryz.ntmps60
  go_wp2_with fail
  refine hN.mono ?_
  rintro e w' ⟨rfl, h⟩
  go_wp2_with fail
  go_returns
  exact ⟨rfl, h⟩
end Go.Proofs.YtoaipjpbioaneaaGreat
