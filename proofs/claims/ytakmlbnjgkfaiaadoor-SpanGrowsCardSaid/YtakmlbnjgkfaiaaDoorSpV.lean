/- A span, a row of texts, and maybe another span, beside each other: what calls of the one leave of the others. -/
import Derived.Test.YtakmlbnjgkfaiaaDoorMSb
namespace Go.Proofs.YtakmlbnjgkfaiaaDoor
open Go Go.RowKit

/-- Two rows that lie apart. -/
def Ap (v u : Value) : Prop := ∀ k, v.ownBlock = some k → u.ownBlock ≠ some k
theorem Ap.symm {v u : Value} (h : Ap v u) : Ap u v := fun k hk hv => h k hv hk
/-- A row that is the old one, or new, lies apart of what was there and apart of the old one. -/
theorem Ap.place {v v' u : Value} {N : Nat} (h : Ap v u) (hp : ∀ k, v'.ownBlock = some k → v.ownBlock = some k ∨ N ≤ k) (hu : ∀ k, u.ownBlock = some k → k < N) : Ap v' u := fun k hk hu2 => by
  rcases hp k hk with e | e
  · exact h k e hu2
  · have := hu k hu2; omega
abbrev tSp : TypeId := 25
structure GE (w0 w : World) (g n : Nat) (v : Value) (P : List ByteArray) (u : Value) (U : List ByteArray) (cp : Option (Nat × Nat × Value × List ByteArray)) : Prop where
  s : SAt w tSp g n v P
  a : TxR w0.heap.size w u U
  ap : Ap v u
  gb : w0.heap.size ≤ g
  vb : ∀ k, v.ownBlock = some k → w0.heap.size ≤ k
  bel : Below w0.heap.size w0 w
  c : ∀ gc nc vc Pc, cp = some (gc, nc, vc, Pc) → SAt w tSp gc nc vc Pc ∧ gc ≠ g ∧ w0.heap.size ≤ gc ∧ (∀ k, vc.ownBlock = some k → w0.heap.size ≤ k) ∧ Ap vc v ∧ Ap vc u
theorem SAt.apartU {w : World} {g n : Nat} {v : Value} {P : List ByteArray} (h : SAt w tSp g n v P) {B : Nat} {u : Value} {U : List ByteArray} (hu : TxR B w u U) : u.ownBlock ≠ some g := Pk.Row.apart (TxR.base hu (Nat.zero_le _)) h.blk (by decide)
theorem GE.here {w0 w w' : World} {g n : Nat} {v u : Value} {P U : List ByteArray} {cp : Option (Nat × Nat × Value × List ByteArray)} (h : GE w0 w g n v P u U cp) (hb : Below w.heap.size w w') : GE w0 w' g n v P u U cp :=
  ⟨h.s.here hb, h.a.here hb, h.ap, h.gb, h.vb, mono_bel h.bel hb (Nat.le_refl _), fun gc nc vc Pc e => by
    obtain ⟨h1, h2⟩ := h.c gc nc vc Pc e
    exact ⟨h1.here hb, h2⟩⟩
theorem GE.push {w0 w w' : World} {g n : Nat} {v u u' : Value} {P U U' : List ByteArray} {cp : Option (Nat × Nat × Value × List ByteArray)} (h : GE w0 w g n v P u U cp) (hp : PushedT w0.heap.size w u U' u' w') : GE w0 w' g n v P u' U' cp := by
  have hlt : ∀ k, v.ownBlock = some k → k < w.heap.size := fun k hk => h.s.row.lt k hk
  refine ⟨h.s.chg hp.chg (h.s.apartU h.a) fun k hk e => h.ap k hk e, hp.row, (h.ap.symm.place hp.place hlt).symm, h.gb, h.vb, hp.bel h.bel h.a, fun gc nc vc Pc e => ?_⟩
  obtain ⟨h1, h2, h3, h4, h5, h6⟩ := h.c gc nc vc Pc e
  exact ⟨h1.chg hp.chg (h1.apartU h.a) fun k hk e => h6 k hk e, h2, h3, h4, h5, (h6.symm.place hp.place fun k hk => h1.row.lt k hk).symm⟩
theorem GE.next {w0 w w' : World} {g n n' : Nat} {v u : Value} {P P' U : List ByteArray} {cp : Option (Nat × Nat × Value × List ByteArray)} (h : GE w0 w g n v P u U cp) (hs : SNext w tSp g v n' P' w') : ∃ v', GE w0 w' g n' v' P' u U cp := by
  obtain ⟨v', h1, h2, h3⟩ := hs.out
  refine ⟨v', h1, h.a.chg h2 (fun k hk e => ?_), h.ap.place h3 (fun k hk => h.a.lt k hk), h.gb, fun k hk => ?_, h.bel.trans (h2.below h.bel.size fun i hi => ?_), fun gc nc vc Pc e => ?_⟩
  · rcases e with rfl | e
    · exact h.s.apartU h.a hk
    · exact h.ap k e hk
  · rcases h3 k hk with e | e
    · exact h.vb k e
    · exact Nat.le_trans h.bel.size e
  · rcases hi with rfl | hi
    · exact h.gb
    · exact h.vb i hi
  · obtain ⟨k1, k2, k3, k4, k5, k6⟩ := h.c gc nc vc Pc e
    refine ⟨k1.chg h2 (fun e => ?_) (fun k hk e => ?_), k2, k3, k4, (k5.symm.place h3 fun k hk => k1.row.lt k hk).symm, k6⟩
    · rcases e with e | e
      · exact k2 e
      · exact k1.apartU h.s.row e
    · rcases e with rfl | e
      · exact h.s.apartU k1.row hk
      · exact k5 k hk e
theorem GE.copy {w0 w w' : World} {g gc n : Nat} {v u : Value} {P U : List ByteArray} {cp : Option (Nat × Nat × Value × List ByteArray)} (h : GE w0 w g n v P u U cp) (hs : SNew w tSp gc n P w') : ∃ vc, GE w0 w' g n v P u U (some (gc, n, vc, P)) := by
  obtain ⟨vc, h1, h2, h3, h4⟩ := hs.out
  have h5 := h.here h4
  refine ⟨vc, h5.s, h5.a, h5.ap, h5.gb, h5.vb, h5.bel, fun g2 n2 v2 P2 e => ?_⟩
  cases e
  refine ⟨h1, ?_, Nat.le_trans h.bel.size h2, fun k hk => Nat.le_trans h.bel.size (h3 k hk), fun k hk e => ?_, fun k hk e => ?_⟩
  · have := h.s.lt; omega
  · have := h.s.row.lt k e; have := h3 k hk; omega
  · have := h.a.lt k e; have := h3 k hk; omega
theorem GE.cnext {w0 w w' : World} {g n gc nc n' : Nat} {v u vc : Value} {P Pc P' U : List ByteArray} (h : GE w0 w g n v P u U (some (gc, nc, vc, Pc))) (hs : SNext w tSp gc vc n' P' w') : ∃ vc', GE w0 w' g n v P u U (some (gc, n', vc', P')) := by
  obtain ⟨v', h1, h2, h3⟩ := hs.out
  obtain ⟨k1, k2, k3, k4, k5, k6⟩ := h.c gc nc vc Pc rfl
  refine ⟨v', h.s.chg h2 (fun e => ?_) (fun k hk e => ?_), h.a.chg h2 (fun k hk e => ?_), h.ap, h.gb, h.vb, h.bel.trans (h2.below h.bel.size fun i hi => ?_), fun g2 n2 v2 P2 e => ?_⟩
  · rcases e with e | e
    · exact k2 e.symm
    · exact h.s.apartU k1.row e
  · rcases e with rfl | e
    · exact k1.apartU h.s.row hk
    · exact k5 k e hk
  · rcases e with rfl | e
    · exact k1.apartU h.a hk
    · exact k6 k e hk
  · rcases hi with rfl | hi
    · exact k3
    · exact k4 i hi
  · cases e
    refine ⟨h1, k2, k3, fun k hk => ?_, k5.place h3 fun k hk => h.s.row.lt k hk, k6.place h3 fun k hk => h.a.lt k hk⟩
    rcases h3 k hk with e | e
    · exact k4 k e
    · exact Nat.le_trans h.bel.size e
theorem GE.zero (w0 w : World) (hb : Below w0.heap.size w0 w) : GE w0 (w.alloc (.cells #[.int .i64 0, .slice none 0 0] tSp)) w.heap.size 0 (.slice none 0 0) (pkL []) (.slice none 0 0) [] none :=
  ⟨⟨Pk.Blk.new w [.int .i64 0, .slice none 0 0] tSp, by rw [pkL_nil]; exact TxR.nil _ _, by rw [pkL_nil]; exact pcN_zero.symm⟩, TxR.nil _ _, (fun k hk => by cases hk), hb.size, (fun k hk => by cases hk), mono_bel hb (bel_alloc _ _) (Nat.le_refl _), fun gc nc vc Pc e => by cases e⟩
/-- The calls, beside the rest. -/
theorem GE.small {w0 w : World} {g n : Nat} {v u : Value} {P U : List ByteArray} {cp : Option (Nat × Nat × Value × List ByteArray)} (h : GE w0 w g n v P u U cp) (hn : n < 4611686018427387904) : P.length ≤ 64 := by rw [h.s.len]; exact pcN_le 64 n (by omega)
theorem ge_append {w0 w : World} {g n : Nat} {v u : Value} {U l : List ByteArray} {cp : Option (Nat × Nat × Value × List ByteArray)} (h : GE w0 w g n v (pkL l) u U cp) (hl : l.length = n) (x : ByteArray) (hK : KIs w) (hT : TIs w) (hF : Fit l) (hx : x.size ≤ 70000000000000) (hn : n < 4611686018427387904) :
    Calls Tryd.prog 11 #[PtrS g, .string x] w fun e w' => e = .returned (.tuple #[]) ∧ ∃ v', GE w0 w' g (n + 1) v' (pkL (l ++ [x])) u U cp := by
  have h1 := append_any g n v (pkL l) x w h.s hK hT (fit_pkL hF) hx (by omega) (h.small hn)
  subst hl
  rw [pkL_snoc] at h1
  exact h1.mono fun e w' ⟨he, hs⟩ => ⟨he, h.next hs⟩
theorem ge_copy {w0 w : World} {g n : Nat} {v u : Value} {P U : List ByteArray} {cp : Option (Nat × Nat × Value × List ByteArray)} (h : GE w0 w g n v P u U cp) (hn : n < 4611686018427387904) :
    Calls Tryd.prog 9 #[PtrS g] w fun e w' => ∃ gc vc, e = .returned (PtrS gc) ∧ GE w0 w' g n v P u U (some (gc, n, vc, P)) :=
  (copy_any g n v P w h.s (h.small hn)).mono fun e w' ⟨gc, he, hs⟩ => by
    obtain ⟨vc, h2⟩ := h.copy hs
    exact ⟨gc, vc, he, h2⟩
theorem ge_cappend {w0 w : World} {g n gc nc : Nat} {v u vc : Value} {P U l : List ByteArray} (h : GE w0 w g n v P u U (some (gc, nc, vc, pkL l))) (hl : l.length = nc) (x : ByteArray) (hK : KIs w) (hT : TIs w) (hF : Fit l) (hx : x.size ≤ 70000000000000) (hn : nc < 4611686018427387904) :
    Calls Tryd.prog 11 #[PtrS gc, .string x] w fun e w' => e = .returned (.tuple #[]) ∧ ∃ vc', GE w0 w' g n v P u U (some (gc, nc + 1, vc', pkL (l ++ [x]))) := by
  obtain ⟨k1, _⟩ := h.c gc nc vc (pkL l) rfl
  have h1 := append_any gc nc vc (pkL l) x w k1 hK hT (fit_pkL hF) hx (by omega) (by rw [k1.len]; exact pcN_le 64 nc (by omega))
  subst hl
  rw [pkL_snoc] at h1
  exact h1.mono fun e w' ⟨he, hs⟩ => ⟨he, h.cnext hs⟩
theorem sat_root {w : World} {g n : Nat} {v : Value} {l : List ByteArray} (h : SAt w tSp g n v (pkL l)) (hK : KIs w) (hF : Fit l) (hn : n < 4611686018427387904) :
    Calls Tryd.prog 13 #[PtrS g] w fun e w' => e = .returned (.string (rootL l)) ∧ Below w.heap.size w w' := by
  have := sroot_any g n v (pkL l) w h hK (fit_pkL hF) (by omega)
  rw [pkL_root] at this
  exact this
end Go.Proofs.YtakmlbnjgkfaiaaDoor
