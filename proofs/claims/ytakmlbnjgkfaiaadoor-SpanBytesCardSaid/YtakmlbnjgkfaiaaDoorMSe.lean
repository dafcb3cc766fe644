/- A span, a row of texts, and maybe another span, beside each other: what calls of the one leave of the others. | Append of one text onto a row: what the old slice reads stays. | Walk of the law SpanProves. | Walk of the law SpanGrows. | Walk of the law SpanBytes. -/
import Derived.ArgAppend
import Derived.Test.YtakmlbnjgkfaiaaDoorMSb
import Derived.Test.YtakmlbnjgkfaiaaDoorMTe
import Derived.Test.YtakmlbnjgkfaiaaDoorMSd
namespace Go.Proofs.YtakmlbnjgkfaiaaDoor
open Go Go.RowKit

/-- Two rows that lie apart. -/
def Ap (v u : Value) : Prop := ∀ k, v.ownBlock = some k → u.ownBlock ≠ some k
theorem Ap.symm {v u : Value} (h : Ap v u) : Ap u v := fun k hk hv => h k hv hk
/-- A row that is the old one, or new, lies apart of what was there and apart of the old one. -/
theorem Ap.place {v v' u : Value} {N : Nat} (h : Ap v u) (hp : ∀ k, v'.ownBlock = some k → v.ownBlock = some k ∨ N ≤ k) (hu : ∀ k, u.ownBlock = some k → k < N) : Ap v' u := fun k hk hu2 => by
  rcases hp k hk with e | e
  · exact h k e hu2
  · have := hu k hu2; omega
abbrev tSp : TypeId := 25
structure GE (w0 w : World) (g n : Nat) (v : Value) (P : List ByteArray) (u : Value) (U : List ByteArray) (cp : Option (Nat × Nat × Value × List ByteArray)) : Prop where
  s : SAt w tSp g n v P
  a : TxR w0.heap.size w u U
  ap : Ap v u
  gb : w0.heap.size ≤ g
  vb : ∀ k, v.ownBlock = some k → w0.heap.size ≤ k
  bel : Below w0.heap.size w0 w
  c : ∀ gc nc vc Pc, cp = some (gc, nc, vc, Pc) → SAt w tSp gc nc vc Pc ∧ gc ≠ g ∧ w0.heap.size ≤ gc ∧ (∀ k, vc.ownBlock = some k → w0.heap.size ≤ k) ∧ Ap vc v ∧ Ap vc u
theorem SAt.apartU {w : World} {g n : Nat} {v : Value} {P : List ByteArray} (h : SAt w tSp g n v P) {B : Nat} {u : Value} {U : List ByteArray} (hu : TxR B w u U) : u.ownBlock ≠ some g := Pk.Row.apart (TxR.base hu (Nat.zero_le _)) h.blk (by decide)
theorem GE.here {w0 w w' : World} {g n : Nat} {v u : Value} {P U : List ByteArray} {cp : Option (Nat × Nat × Value × List ByteArray)} (h : GE w0 w g n v P u U cp) (hb : Below w.heap.size w w') : GE w0 w' g n v P u U cp :=
  ⟨h.s.here hb, h.a.here hb, h.ap, h.gb, h.vb, mono_bel h.bel hb (Nat.le_refl _), fun gc nc vc Pc e => by
    obtain ⟨h1, h2⟩ := h.c gc nc vc Pc e
    exact ⟨h1.here hb, h2⟩⟩
theorem GE.push {w0 w w' : World} {g n : Nat} {v u u' : Value} {P U U' : List ByteArray} {cp : Option (Nat × Nat × Value × List ByteArray)} (h : GE w0 w g n v P u U cp) (hp : PushedT w0.heap.size w u U' u' w') : GE w0 w' g n v P u' U' cp := by
  have hlt : ∀ k, v.ownBlock = some k → k < w.heap.size := fun k hk => h.s.row.lt k hk
  refine ⟨h.s.chg hp.chg (h.s.apartU h.a) fun k hk e => h.ap k hk e, hp.row, (h.ap.symm.place hp.place hlt).symm, h.gb, h.vb, hp.bel h.bel h.a, fun gc nc vc Pc e => ?_⟩
  obtain ⟨h1, h2, h3, h4, h5, h6⟩ := h.c gc nc vc Pc e
  exact ⟨h1.chg hp.chg (h1.apartU h.a) fun k hk e => h6 k hk e, h2, h3, h4, h5, (h6.symm.place hp.place fun k hk => h1.row.lt k hk).symm⟩
theorem GE.next {w0 w w' : World} {g n n' : Nat} {v u : Value} {P P' U : List ByteArray} {cp : Option (Nat × Nat × Value × List ByteArray)} (h : GE w0 w g n v P u U cp) (hs : SNext w tSp g v n' P' w') : ∃ v', GE w0 w' g n' v' P' u U cp := by
  obtain ⟨v', h1, h2, h3⟩ := hs.out
  refine ⟨v', h1, h.a.chg h2 (fun k hk e => ?_), h.ap.place h3 (fun k hk => h.a.lt k hk), h.gb, fun k hk => ?_, h.bel.trans (h2.below h.bel.size fun i hi => ?_), fun gc nc vc Pc e => ?_⟩
  · rcases e with rfl | e
    · exact h.s.apartU h.a hk
    · exact h.ap k e hk
  · rcases h3 k hk with e | e
    · exact h.vb k e
    · exact Nat.le_trans h.bel.size e
  · rcases hi with rfl | hi
    · exact h.gb
    · exact h.vb i hi
  · obtain ⟨k1, k2, k3, k4, k5, k6⟩ := h.c gc nc vc Pc e
    refine ⟨k1.chg h2 (fun e => ?_) (fun k hk e => ?_), k2, k3, k4, (k5.symm.place h3 fun k hk => k1.row.lt k hk).symm, k6⟩
    · rcases e with e | e
      · exact k2 e
      · exact k1.apartU h.s.row e
    · rcases e with rfl | e
      · exact h.s.apartU k1.row hk
      · exact k5 k hk e
theorem GE.copy {w0 w w' : World} {g gc n : Nat} {v u : Value} {P U : List ByteArray} {cp : Option (Nat × Nat × Value × List ByteArray)} (h : GE w0 w g n v P u U cp) (hs : SNew w tSp gc n P w') : ∃ vc, GE w0 w' g n v P u U (some (gc, n, vc, P)) := by
  obtain ⟨vc, h1, h2, h3, h4⟩ := hs.out
  have h5 := h.here h4
  refine ⟨vc, h5.s, h5.a, h5.ap, h5.gb, h5.vb, h5.bel, fun g2 n2 v2 P2 e => ?_⟩
  cases e
  refine ⟨h1, ?_, Nat.le_trans h.bel.size h2, fun k hk => Nat.le_trans h.bel.size (h3 k hk), fun k hk e => ?_, fun k hk e => ?_⟩
  · have := h.s.lt; omega
  · have := h.s.row.lt k e; have := h3 k hk; omega
  · have := h.a.lt k e; have := h3 k hk; omega
theorem GE.cnext {w0 w w' : World} {g n gc nc n' : Nat} {v u vc : Value} {P Pc P' U : List ByteArray} (h : GE w0 w g n v P u U (some (gc, nc, vc, Pc))) (hs : SNext w tSp gc vc n' P' w') : ∃ vc', GE w0 w' g n v P u U (some (gc, n', vc', P')) := by
  obtain ⟨v', h1, h2, h3⟩ := hs.out
  obtain ⟨k1, k2, k3, k4, k5, k6⟩ := h.c gc nc vc Pc rfl
  refine ⟨v', h.s.chg h2 (fun e => ?_) (fun k hk e => ?_), h.a.chg h2 (fun k hk e => ?_), h.ap, h.gb, h.vb, h.bel.trans (h2.below h.bel.size fun i hi => ?_), fun g2 n2 v2 P2 e => ?_⟩
  · rcases e with e | e
    · exact k2 e.symm
    · exact h.s.apartU k1.row e
  · rcases e with rfl | e
    · exact k1.apartU h.s.row hk
    · exact k5 k e hk
  · rcases e with rfl | e
    · exact k1.apartU h.a hk
    · exact k6 k e hk
  · rcases hi with rfl | hi
    · exact k3
    · exact k4 i hi
  · cases e
    refine ⟨h1, k2, k3, fun k hk => ?_, k5.place h3 fun k hk => h.s.row.lt k hk, k6.place h3 fun k hk => h.a.lt k hk⟩
    rcases h3 k hk with e | e
    · exact k4 k e
    · exact Nat.le_trans h.bel.size e
theorem GE.zero (w0 w : World) (hb : Below w0.heap.size w0 w) : GE w0 (w.alloc (.cells #[.int .i64 0, .slice none 0 0] tSp)) w.heap.size 0 (.slice none 0 0) (pkL []) (.slice none 0 0) [] none :=
  ⟨⟨Pk.Blk.new w [.int .i64 0, .slice none 0 0] tSp, by rw [pkL_nil]; exact TxR.nil _ _, by rw [pkL_nil]; exact pcN_zero.symm⟩, TxR.nil _ _, (fun k hk => by cases hk), hb.size, (fun k hk => by cases hk), mono_bel hb (bel_alloc _ _) (Nat.le_refl _), fun gc nc vc Pc e => by cases e⟩
/-- The calls, beside the rest. -/
theorem GE.small {w0 w : World} {g n : Nat} {v u : Value} {P U : List ByteArray} {cp : Option (Nat × Nat × Value × List ByteArray)} (h : GE w0 w g n v P u U cp) (hn : n < 4611686018427387904) : P.length ≤ 64 := by rw [h.s.len]; exact pcN_le 64 n (by omega)
theorem ge_append {w0 w : World} {g n : Nat} {v u : Value} {U l : List ByteArray} {cp : Option (Nat × Nat × Value × List ByteArray)} (h : GE w0 w g n v (pkL l) u U cp) (hl : l.length = n) (x : ByteArray) (hK : KIs w) (hT : TIs w) (hF : Fit l) (hx : x.size ≤ 70000000000000) (hn : n < 4611686018427387904) :
    Calls Tryd.prog 11 #[PtrS g, .string x] w fun e w' => e = .returned (.tuple #[]) ∧ ∃ v', GE w0 w' g (n + 1) v' (pkL (l ++ [x])) u U cp := by
  have h1 := append_any g n v (pkL l) x w h.s hK hT (fit_pkL hF) hx (by omega) (h.small hn)
  subst hl
  rw [pkL_snoc] at h1
  exact h1.mono fun e w' ⟨he, hs⟩ => ⟨he, h.next hs⟩
theorem ge_copy {w0 w : World} {g n : Nat} {v u : Value} {P U : List ByteArray} {cp : Option (Nat × Nat × Value × List ByteArray)} (h : GE w0 w g n v P u U cp) (hn : n < 4611686018427387904) :
    Calls Tryd.prog 9 #[PtrS g] w fun e w' => ∃ gc vc, e = .returned (PtrS gc) ∧ GE w0 w' g n v P u U (some (gc, n, vc, P)) :=
  (copy_any g n v P w h.s (h.small hn)).mono fun e w' ⟨gc, he, hs⟩ => by
    obtain ⟨vc, h2⟩ := h.copy hs
    exact ⟨gc, vc, he, h2⟩
theorem ge_cappend {w0 w : World} {g n gc nc : Nat} {v u vc : Value} {P U l : List ByteArray} (h : GE w0 w g n v P u U (some (gc, nc, vc, pkL l))) (hl : l.length = nc) (x : ByteArray) (hK : KIs w) (hT : TIs w) (hF : Fit l) (hx : x.size ≤ 70000000000000) (hn : nc < 4611686018427387904) :
    Calls Tryd.prog 11 #[PtrS gc, .string x] w fun e w' => e = .returned (.tuple #[]) ∧ ∃ vc', GE w0 w' g n v P u U (some (gc, nc + 1, vc', pkL (l ++ [x]))) := by
  obtain ⟨k1, _⟩ := h.c gc nc vc (pkL l) rfl
  have h1 := append_any gc nc vc (pkL l) x w k1 hK hT (fit_pkL hF) hx (by omega) (by rw [k1.len]; exact pcN_le 64 nc (by omega))
  subst hl
  rw [pkL_snoc] at h1
  exact h1.mono fun e w' ⟨he, hs⟩ => ⟨he, h.cnext hs⟩
theorem sat_root {w : World} {g n : Nat} {v : Value} {l : List ByteArray} (h : SAt w tSp g n v (pkL l)) (hK : KIs w) (hF : Fit l) (hn : n < 4611686018427387904) :
    Calls Tryd.prog 13 #[PtrS g] w fun e w' => e = .returned (.string (rootL l)) ∧ Below w.heap.size w w' := by
  have := sroot_any g n v (pkL l) w h hK (fit_pkL hF) (by omega)
  rw [pkL_root] at this
  exact this
end Go.Proofs.YtakmlbnjgkfaiaaDoor

namespace Go.Proofs.YtakmlbnjgkfaiaaDoor
open Go Go.RowKit

theorem push_one (B : Nat) (w : World) (ty : TypeId) (v : Value) (ids : List ByteArray) (x : ByteArray) (h : TxR B w v ids) (hB : B ≤ w.heap.size) (b o c : Nat) (hz : PartsAt w (.slice (some ⟨b, o, none⟩) 1 c) [x]) (hlen : (ids.length + 1) * 16 ≤ 140737488355328) :
    ∃ v' w', (Builtin.append_ #[22, 22] ty #[v, .slice (some ⟨b, o, none⟩) 1 c]).run Tryd.prog w = .ok v' w' ∧ PushedT B w v (ids ++ [x]) v' w' ∧ TxR B w' v ids := by
  obtain ⟨v', w', hr, hp⟩ := push_texts B w ty v ids [x] h hB (some ⟨b, o, none⟩) 1 c rfl hz hlen
  refine ⟨v', w', hr, hp, ?_⟩
  obtain ⟨i0, hi, hz0, hz1, hz2⟩ := info_parts info_s
  have hcell : ∀ j u, ([x].map Value.string)[j]? = some u → w.cell? ((⟨b, o, none⟩ : Addr).add j) = some u := fun j u hj => by
    obtain ⟨a2, c2, e2, hh⟩ := hz.ex
    cases e2
    obtain ⟨b3, o3, e3, _, h4⟩ := hh (by simp)
    cases e3
    match j, hj with
    | 0, hj =>
      have hadd : (⟨b, o, none⟩ : Addr).add 0 = ⟨b, o + 0, none⟩ := by unfold Addr.add; simp
      rw [hadd, h4 0 (by simp)]
      simpa using hj
  have h' := h
  obtain ⟨hx, ⟨rfl, h0⟩ | ⟨g, cap, cur, rfl, b1, hg, b2, b3, b4, b5⟩⟩ := h
  · obtain rfl : ids = [] := List.length_eq_zero_iff.1 h0
    exact TxR.nil _ _
  · by_cases hroom : ids.length + 1 ≤ cap
    · have hlt : ids.length < cur.size := by omega
      have hr2 := run_append_room_cells (P := Tryd.prog) w 22 ty 9 i0 Tryd.underlying22 hi g 0 ids.length cap ⟨b, o, none⟩ 1 c ([x].map Value.string) (by rw [hz1]; rfl) hcell (by simp [Value.oneCell']) hroom
        (fun j hj => by
          obtain rfl : j = 0 := by simpa using hj
          rw [cell_of_row w g _ cur _ (0, 0) hg, hz1, Array.getElem?_eq_getElem (by omega)]; rfl) (fun j _ => frozen_of_row w g _ cur _ hg)
      rw [hr] at hr2
      cases hr2
      obtain ⟨_, ⟨e1, _⟩ | ⟨g2, cap2, cur2, e1, k1, k2, k3, k4, k5, k6⟩⟩ := hp.row
      · cases e1
      · injection e1 with e2 _ e4
        injection e2 with e5
        injection e5 with e6
        subst e6 e4
        refine ⟨hx, .inr ⟨g, cap, cur2, rfl, k1, k2, b2, k4, k5, ?_⟩⟩
        have h4 := congrArg (List.take (ids.length * 1)) k6
        rw [List.take_take, Nat.min_eq_left (by simp), List.map_append, List.take_left' (by simp)] at h4
        exact h4
    · obtain ⟨v2, w2, hr2, _, hgr⟩ := run_append_arg_grows (P := Tryd.prog) w 22 ty 9 i0 (.string ⟨#[]⟩) 1 16 Tryd.underlying22 hi hz0 hz1 hz2 rfl (by decide) ⟨g, 0, none⟩ ids.length cap (ids.map Value.string) hx (World.ownsRow.cells (g := g) h' rfl)
        ⟨b, o, none⟩ 1 c ([x].map Value.string) rfl hcell (by omega) (by unfold maxLen; omega) hlen
      rw [hr] at hr2
      cases hr2
      exact ⟨hx, .inr ⟨g, cap, cur, rfl, b1, (hgr.block g (Array.getElem?_eq_some_iff.1 hg).1 (by simp)).trans hg, b2, b3, b4, b5⟩⟩
section
variable {w : World} {o : Oper} {a : Act} {Q : Exit → Act → World → Prop}
theorem wp_pushK {K : Act → World → Prop} (s x : Operand) (ho : o.op = .call { callee := .builtin .append, args := #[s, x], argTypes := #[22, 22] }) (B : Nat) (v : Value) (ids : List ByteArray) (z : ByteArray) (hs : a.eval s = v)
    (h : TxR B w v ids) (hB : B ≤ w.heap.size) (b off c : Nat) (hx : a.eval x = .slice (some ⟨b, off, none⟩) 1 c) (hz : PartsAt w (.slice (some ⟨b, off, none⟩) 1 c) [z]) (hlen : (ids.length + 1) * 16 ≤ 140737488355328)
    (k : ∀ v' w', PushedT B w v (ids ++ [z]) v' w' → TxR B w' v ids → K (a.put o.dst v') w') : o.wp Tryd.prog a w K Q := by
  obtain ⟨v', w', hr, hp, hk⟩ := push_one B w o.type v ids z h hB b off c hz hlen
  unfold Oper.wp execOp
  simp only [ho, resolve, invoke, builtin, Sem.run_bind, Sem.run_pure, Result.andThen_ok, List.map_toArray, List.map_cons, List.map_nil, hs, hx, hr]
  exact k _ _ hp hk
theorem wpList_pushK {ops : Array Oper} {rest : List Oper} (hgd : o.guard = none) (s x : Operand) (ho : o.op = .call { callee := .builtin .append, args := #[s, x], argTypes := #[22, 22] }) (B : Nat) (v : Value) (ids : List ByteArray) (z : ByteArray) (hs : a.eval s = v)
    (h : TxR B w v ids) (hB : B ≤ w.heap.size) (b off c : Nat) (hx : a.eval x = .slice (some ⟨b, off, none⟩) 1 c) (hz : PartsAt w (.slice (some ⟨b, off, none⟩) 1 c) [z]) (hlen : (ids.length + 1) * 16 ≤ 140737488355328)
    (k : ∀ v' w', PushedT B w v (ids ++ [z]) v' w' → TxR B w' v ids → wpList Tryd.prog ops Q rest (a.put o.dst v') w') : wpList Tryd.prog ops Q (o :: rest) a w :=
  wpList_plain hgd fun _ hK => wp_pushK s x ho B v ids z hs h hB b off c hx hz hlen fun v' w' hp hk => hK _ _ (k v' w' hp hk)
theorem wpList_pushG {ops : Array Oper} {rest : List Oper} (hw : Region.wanted o (yielded ops a.tmps) = true) (s x : Operand) (ho : o.op = .call { callee := .builtin .append, args := #[s, x], argTypes := #[22, 22] }) (B : Nat) (v : Value) (ids : List ByteArray) (z : ByteArray) (hs : a.eval s = v)
    (h : TxR B w v ids) (hB : B ≤ w.heap.size) (b off c : Nat) (hx : a.eval x = .slice (some ⟨b, off, none⟩) 1 c) (hz : PartsAt w (.slice (some ⟨b, off, none⟩) 1 c) [z]) (hlen : (ids.length + 1) * 16 ≤ 140737488355328)
    (k : ∀ v' w', PushedT B w v (ids ++ [z]) v' w' → TxR B w' v ids → wpList Tryd.prog ops Q rest (a.put o.dst v') w') : wpList Tryd.prog ops Q (o :: rest) a w :=
  wpList_step fun _ hK => by rw [if_pos hw]; exact wp_pushK s x ho B v ids z hs h hB b off c hx hz hlen fun v' w' hp hk => hK _ _ (k v' w' hp hk)
end
/-- A list's own consistency proof is taken; with a hash more, or one fewer, it isn't. -/
theorem con_own (l : List ByteArray) (m n : Nat) (hl : l.length = n) (hm : m ≤ n) :
    conE l m = 0 ∧ cosE m n (conL l m) (rootL (l.take m)) (rootL l) = 0 ∧ (∀ x, cosE m n (conL l m ++ [x]) (rootL (l.take m)) (rootL l) = 11) ∧ (0 < (conL l m).length → cosE m n ((conL l m).take ((conL l m).length - 1)) (rootL (l.take m)) (rootL l) = 11) := by
  have h0 : conE l m = 0 := by unfold conE; rw [if_pos ⟨by omega, by omega⟩]
  have hif : (0 : Int) ≤ (m : Int) ∧ (m : Int) ≤ (n : Int) := ⟨by omega, by omega⟩
  refine ⟨h0, ?_⟩
  unfold cosE
  simp only [if_pos hif, Int.toNat_natCast]
  by_cases hz : m = 0
  · subst hz
    have hc : conL l ((0 : Nat) : Int) = [] := by unfold conL; rw [if_neg (by omega)]
    rw [hc]
    unfold cosB
    by_cases hn : (0 : Nat) = n
    · obtain rfl : l = [] := List.length_eq_zero_iff.1 (by omega)
      subst hn
      simp [errB]
    · simp [hn, errB, rootL_nil]
  · have hc : conL l (m : Int) = partL m l true := by unfold conL; rw [if_pos ⟨by omega, by omega⟩, Int.toNat_natCast]
    rw [hc]
    obtain ⟨h1, h2⟩ := part_steps n l m true hl (by omega) hm
    unfold cosB
    by_cases hmn : m = n
    · subst hmn
      rw [partL_all m l true hl.symm, List.take_of_length_le (by omega)]
      simp [errB]
    · simp only [if_neg hmn, if_neg hz]
      refine ⟨by simp [h1, h2, errB], fun x => by simp [h1, errB], fun h => ?_⟩
      have : ¬ (List.take ((partL m l true).length - 1) (partL m l true)).length = wants m n true := by
        rw [List.length_take, Nat.min_eq_left (by omega), h1]; omega
      simp only [decide_eq_false (fun h => this (And.left h))]
      rfl
/-- The like for a place. -/
theorem inc_own (l : List ByteArray) (i n : Nat) (hl : l.length = n) (hi : i < n) :
    incE l i = 0 ∧ incdE (l.getD i ByteArray.empty) i n (incL l i) (rootL l) = 0 ∧ (∀ x, incdE (l.getD i ByteArray.empty) i n (incL l i ++ [x]) (rootL l) = 11) ∧ (0 < (incL l i).length → incdE (l.getD i ByteArray.empty) i n ((incL l i).take ((incL l i).length - 1)) (rootL l) = 11) := by
  have hif : (0 : Int) ≤ (i : Int) ∧ (i : Int) < (n : Int) := ⟨by omega, by omega⟩
  have hc : incL l (i : Int) = placeL l i := by unfold incL; rw [hl, if_pos hif, Int.toNat_natCast]
  obtain ⟨h1, h2⟩ := place_sides n l i hl hi
  refine ⟨by unfold incE; rw [hl, if_pos hif], ?_⟩
  rw [hc]
  unfold incdE
  simp only [if_pos hif, Int.toNat_natCast]
  refine ⟨by rw [decide_eq_true (And.intro h1 h2)]; rfl, fun x => by simp [h1, errB], fun h => ?_⟩
  have : ¬ (List.take ((placeL l i).length - 1) (placeL l i)).length = (sides i n).length := by
    rw [List.length_take, Nat.min_eq_left (by omega), h1]; omega
  simp only [decide_eq_false (fun h => this (And.left h))]
  rfl
end Go.Proofs.YtakmlbnjgkfaiaaDoor

namespace Go.Proofs.YtakmlbnjgkfaiaaDoor
open Go Go.RowKit

theorem conL64 {l : List ByteArray} (z : Int) (hl : l.length ≤ 9223372036854775807) : (conL l z).length ≤ 64 := by
  unfold conL
  split
  · exact partL_64 hl _ _
  · exact Nat.zero_le _
theorem enc80 (i : Nat) (hi : i < 80) : (Utf8.encode (48 + (i : Int))).size = 1 := by
  have h : ∀ j : Fin 80, (Utf8.encode (48 + ((j.val : Nat) : Int))).size = 1 := by decide +kernel
  exact h ⟨i, hi⟩
/-- The hashes of the leaves '0', '1' and so on. -/
def lvD (n : Nat) : List ByteArray := (List.range n).map fun i : Nat => leafH (Utf8.encode (48 + (i : Int)))
theorem lvD_succ (n : Nat) : lvD (n + 1) = lvD n ++ [leafH (Utf8.encode (48 + (n : Int)))] := by simp [lvD, List.range_succ]
theorem lvD_length (n : Nat) : (lvD n).length = n := by simp [lvD]
theorem lvD_32 (n : Nat) : ∀ x ∈ lvD n, x.size = 32 := fun x hx => by
  obtain ⟨i, _, rfl⟩ := List.mem_map.1 hx
  exact leafH_size _
theorem lvD_fit (n : Nat) : Fit (lvD n) := fun x hx => by rw [lvD_32 n x hx]; omega
theorem lvD_take (m n : Nat) (h : m ≤ n) : (lvD n).take m = lvD m := by
  rw [lvD, lvD, ← List.map_take, List.take_range, Nat.min_eq_left h]
theorem texB_same (l : List ByteArray) : texB l l = true := by simp [texB]
theorem partsR {B : Nat} {w w' : World} {v : Value} {ids : List ByteArray} (h : TxR B w v ids) (hb : Below w.heap.size w w') : PartsAt w' v ids := (h.here hb).parts
theorem fit_place' : ∀ (n : Nat) (l : List ByteArray) (m : Nat) (whole : Bool), l.length = n → Fit l → Fit (partL m l whole) := by
  intro n
  induction n using Nat.strongRecOn with
  | ind n ih =>
    intro l m whole hl hF
    by_cases hm : m = l.length
    · rw [partL_all m l whole hm]
      intro x hx
      cases whole with
      | true => rw [if_pos rfl] at hx; cases hx
      | false => rw [if_neg (by simp)] at hx; rw [List.mem_singleton.1 hx]; exact root_size l hF
    · by_cases h2 : 2 ≤ l.length
      · have hk := cutN_lt h2
        have hk0 := cutN_pos l.length
        obtain ⟨h3, h4⟩ := fit_node hF (cutN l.length)
        intro x hx
        by_cases hi : m ≤ cutN l.length
        · rw [partL_left m l whole h2 hm hi] at hx
          rcases List.mem_append.1 hx with h | h
          · exact ih (cutN l.length) (by omega) _ m whole (by simp; omega) (hF.take _) x h
          · rw [List.mem_singleton.1 h]; exact h4
        · rw [partL_right m l whole h2 hm (by omega)] at hx
          rcases List.mem_append.1 hx with h | h
          · exact ih (l.length - cutN l.length) (by omega) _ _ false (by simp) (hF.drop _) x h
          · rw [List.mem_singleton.1 h]; exact h3
      · rw [partL, if_neg hm, dif_pos (by omega)]
        intro x hx; cases hx
theorem fit_con' {l : List ByteArray} (h : Fit l) (z : Int) : Fit (conL l z) := by
  unfold conL
  split
  · exact fit_place' _ l _ true rfl h
  · intro x hx; cases hx
set_option maxHeartbeats 3200000 in
set_option maxRecDepth 100000 in
theorem law_proves (m n : Nat) (w : World) (hK : KIs w) (hT : TIs w) (hm : m ≤ 255) (hn : n ≤ 255) :
    Calls Tryd.prog 6 #[.int .u8 (m : Int), .int .u8 (n : Int)] w fun e w' => e = .returned (.bool true) ∧ Below w.heap.size w w' := by
  have hG := grows_any w hK hT
  have hmodm : (m : Int).tmod 40 = ((m % 40 : Nat) : Int) := by rw [Int.tmod_eq_emod_of_nonneg (by omega)]; omega
  have hmodn : (n : Int).tmod 40 = ((n % 40 : Nat) : Int) := by rw [Int.tmod_eq_emod_of_nonneg (by omega)]; omega
  obtain ⟨M, hM⟩ : ∃ M, m % 40 = M := ⟨_, rfl⟩
  obtain ⟨N, hN⟩ : ∃ N, n % 40 = N := ⟨_, rfl⟩
  have hM40 : M ≤ 39 := by omega
  have hN40 : N ≤ 39 := by omega
  rw [hM] at hmodm
  rw [hN] at hmodn
  replace hK := Box.mk hK
  replace hT := Box.mk hT
  clear hM hN
  go_enter Tryd.func6, Tryd.ntmps6
  go_wp2_with fail
  refine hG.mono ?_
  rintro e w1 ⟨rfl, hb1⟩
  clear hG
  have hS0 := Box.mk (GE.zero w w1 hb1)
  obtain ⟨w2, hw2⟩ : ∃ W, w1.alloc (.cells #[.int .i64 0, .slice none 0 0] 25) = W := ⟨_, rfl⟩
  rw [hw2] at hS0
  obtain ⟨g, hg⟩ : ∃ g, w1.heap.size = g := ⟨_, rfl⟩
  rw [hg] at hS0
  go_wp2_with fail
  clear hb1 hw2 hg
  go_loopw [6, 7, 18] (fun v6 _ v18 wr => ∃ i : Nat, i ≤ N ∧ v18 = .int .i64 (i : Int) ∧ Box (GE w wr g 0 (.slice none 0 0) (pkL []) v6 (lvD i) none)) (fun _ _ v18 _ => N - (intOf v18).toNat)
  case atStart => exact ⟨0, by omega, rfl, hS0⟩
  case round =>
    clear hS0
    obtain ⟨i, hi, rfl, hS⟩ := hrel
    obtain ⟨a, c, rfl⟩ := hS.out.a.shape
    have hil := lvD_length i
    obtain ⟨I, hI⟩ : ∃ I, lvD i = I := ⟨_, rfl⟩
    have hIs := lvD_succ i
    rw [hI] at hS hil hIs ⊢
    rw [hil] at hS ⊢
    by_cases hlt : i < N
    · have hii : (i : Int) < (N : Int) := by omega
      have hcv := run_convert_int_string (P := Tryd.prog) wr 21 9 .i32 (48 + (i : Int)) (by rw [Tryd.underlying21]; rfl) Tryd.underlying9
      have hz4 := enc80 i (by omega)
      obtain ⟨z, hz⟩ : ∃ z, Utf8.encode (48 + (i : Int)) = z := ⟨_, rfl⟩
      rw [hz] at hcv hz4 hIs
      have hLf := rleaf_any z wr (by omega)
      obtain ⟨y, hy⟩ : ∃ y, leafH z = y := ⟨_, rfl⟩
      rw [hy] at hLf hIs
      replace hIs := Box.mk hIs
      replace hil := Box.mk hil
      clear hy hz hI
      go_wp2_with fail
      refine hLf.mono ?_
      rintro e w3 ⟨rfl, hb3⟩
      clear hLf hcv
      have hS3 := Box.mk (hS.out.here hb3)
      have hpn := Box.mk (parts_new w3 [y] 9)
      clear hS hb3
      go_wp2_with (at_builtin; refine wpList_pushT rfl (.tmp 21) (.tmp 27) rfl w.heap.size _ I [y] rfl (hS3.out.a.here (bel_alloc _ _)) (by have := hS3.out.bel.size; simp; omega) (some ⟨w3.heap.size, 0, none⟩) 1 1 rfl rfl hpn.out (by rw [hil.out]; omega) ?_)
      rintro v4 w4 hp
      have hS4 := (hS3.out.here (bel_alloc _ _)).push hp
      rw [← hIs.out] at hS4
      replace hS4 := Box.mk hS4
      clear hp hS3 hpn
      go_wp2_with fail
      exact ⟨⟨i + 1, by omega, by go_num, hS4⟩, by simp [intOf]; omega⟩
    · obtain rfl : i = N := by omega
      have hnl : ¬ (i : Int) < (i : Int) := by omega
      obtain ⟨W, hW⟩ : ∃ W, wr = W := ⟨_, rfl⟩
      rw [hW] at hS ⊢
      have hS0 : Box (∃ v, GE w W g 0 v (pkL (lvD 0)) (.slice a i c) I none) := ⟨⟨_, hS.out⟩⟩
      replace hil := Box.mk hil
      replace hI := Box.mk hI
      clear hS hW hIs wr
      go_wp2_with fail
      go_loopw [8, 33] (fun _ v33 wr => ∃ j : Nat, j ≤ M ∧ v33 = .int .i64 (j : Int) ∧ Box (∃ v, GE w wr g j v (pkL (lvD j)) (.slice a i c) I none)) (fun _ v33 _ => M - (intOf v33).toNat)
      case atStart => exact ⟨0, by omega, rfl, hS0⟩
      case round =>
        clear hS0
        obtain ⟨j, hj, rfl, hS⟩ := hrel
        obtain ⟨v, hS⟩ := hS.out
        replace hS := Box.mk hS
        have hjl := lvD_length j
        have hjf := lvD_fit j
        have hjs := lvD_succ j
        have hKr := hK.out.below hS.out.bel hK.out.lt
        have hTr := hT.out.below hS.out.bel hT.out.lt
        by_cases hlt : j < M
        · have hii : (j : Int) < (M : Int) := by omega
          have hcv := run_convert_int_string (P := Tryd.prog) wr 21 9 .i32 (48 + (j : Int)) (by rw [Tryd.underlying21]; rfl) Tryd.underlying9
          have hz4 := enc80 j (by omega)
          obtain ⟨z, hz⟩ : ∃ z, Utf8.encode (48 + (j : Int)) = z := ⟨_, rfl⟩
          rw [hz] at hcv hz4 hjs
          have hLf := rleaf_any z wr (by omega)
          have hys := leafH_size z
          obtain ⟨y, hy⟩ : ∃ y, leafH z = y := ⟨_, rfl⟩
          rw [hy] at hLf hjs hys
          have hAp := Box.mk fun w' (hb : Below wr.heap.size wr w') => ge_append (hS.out.here hb) hjl y (hKr.up hb) (hTr.up hb) hjf (by omega) (by omega)
          rw [← hjs] at hAp
          clear hy hz hjs hjf hKr hTr hjl hys
          go_wp2_with fail
          refine hLf.mono ?_
          rintro e w3 ⟨rfl, hb3⟩
          clear hLf hcv
          have h1 := hAp.out w3 hb3
          unfold PtrS at h1
          clear hAp hb3 hS
          go_wp2_with fail
          refine h1.mono ?_
          rintro e w4 ⟨rfl, hS4⟩
          replace hS4 := Box.mk hS4
          clear h1
          go_wp2_with fail
          exact ⟨⟨j + 1, by omega, by go_num, hS4⟩, by simp [intOf]; omega⟩
        · obtain rfl : j = M := by omega
          have hnl : ¬ (j : Int) < (j : Int) := by omega
          have hIf : Fit I := by rw [← hI.out]; exact lvD_fit i
          have hPr := prove_any g j v (pkL (lvD j)) i I a c wr hS.out.s (hS.out.a.pa hil.out) hKr hIf
          have hcl := conL64 (l := I) (j : Int) (by rw [hil.out]; omega)
          have hcf := fit_con' hIf (j : Int)
          have hRs := Box.mk fun w' (hb : Below wr.heap.size wr w') => sat_root (hS.out.here hb).s (hKr.up hb) hjf (by omega)
          have hSz := Box.mk fun w' (hb : Below wr.heap.size wr w') => size_any g j v (pkL (lvD j)) w' (hS.out.here hb).s
          have hDC := Box.mk fun w' (hb : Below wr.heap.size wr w') => rconsistency_any i I (j : Int) a c w' ((hS.out.here hb).a.pa hil.out) hIf
          have hDR := Box.mk fun w' (hb : Below wr.heap.size wr w') => rroot_any i I a c w' ((hS.out.here hb).a.pa hil.out) hIf
          have hbw := Box.mk hS.out.bel
          have hos := root_size _ hjf
          unfold RowsE at hPr hDC
          unfold PtrS at hPr hRs hSz
          by_cases hji : j ≤ i
          · obtain ⟨o1, o2, _, _⟩ := con_own I j i hil.out hji
            have htk : I.take j = lvD j := by rw [← hI.out]; exact lvD_take j i hji
            rw [htk] at o2
            obtain ⟨C, hC⟩ : ∃ C, conL I (j : Int) = C := ⟨_, rfl⟩
            obtain ⟨O, hO⟩ : ∃ O, rootL (lvD j) = O := ⟨_, rfl⟩
            obtain ⟨R, hR⟩ : ∃ R, rootL I = R := ⟨_, rfl⟩
            rw [hC, o1] at hPr hDC
            rw [hC] at o2 hcl hcf
            rw [hO] at hRs o2 hos
            rw [hR] at hDR o2
            have hjii : ¬ (j : Int) > (i : Int) := by omega
            clear hS hjl hjs hjf hKr hTr hIf o1 htk hC hO hR hlt hj
            go_wp2_with fail
            refine hPr.mono ?_
            clear hPr
            rintro e w3 ⟨v3, rfl, hT3, hb3⟩
            obtain ⟨a3, c3, rfl⟩ := hT3.shape
            obtain ⟨p, hp⟩ : ∃ p, C.length = p := ⟨_, rfl⟩
            rw [hp] at hT3 hcl ⊢
            replace hT3 := Box.mk hT3
            replace hb3 := Box.mk hb3
            replace hp := Box.mk hp
            have h1 := hSz.out w3 hb3.out
            go_wp2_with fail
            refine h1.mono ?_
            clear h1
            rintro e w4 ⟨rfl, rfl⟩
            have h1 := hSz.out w3 hb3.out
            go_wp2_with fail
            refine h1.mono ?_
            clear h1
            rintro e w4 ⟨rfl, rfl⟩
            have h1 := hDC.out w3 hb3.out
            go_wp2_with fail
            refine h1.mono ?_
            clear h1 hDC
            rintro e w4 ⟨v4, rfl, hT4, hb4⟩
            replace hT3 := Box.mk (hT3.out.here hb4)
            replace hb3 := Box.mk (mono_bel hb3.out hb4 (Nat.le_refl _))
            have h1 := same_any _ _ C C w4 hT3.out.parts hT4.parts (by rw [hp.out]; unfold maxLen; omega)
            rw [texB_same] at h1
            clear hT4 hb4
            go_wp2_with fail
            refine h1.mono ?_
            clear h1
            rintro e w5 ⟨rfl, hb5⟩
            replace hT3 := Box.mk (hT3.out.here hb5)
            replace hb3 := Box.mk (mono_bel hb3.out hb5 (Nat.le_refl _))
            clear hb5
            have h1 := hSz.out w5 hb3.out
            go_wp2_with fail
            refine h1.mono ?_
            clear h1 hSz
            rintro e w6 ⟨rfl, rfl⟩
            have h1 := hRs.out w5 hb3.out
            go_wp2_with fail
            refine h1.mono ?_
            clear h1 hRs
            rintro e w6 ⟨rfl, hb5⟩
            replace hT3 := Box.mk (hT3.out.here hb5)
            replace hb3 := Box.mk (mono_bel hb3.out hb5 (Nat.le_refl _))
            clear hb5
            have h1 := hDR.out w6 hb3.out
            go_wp2_with fail
            refine h1.mono ?_
            clear h1 hDR
            rintro e w7 ⟨rfl, hb5⟩
            replace hT3 := Box.mk (hT3.out.here hb5)
            replace hb3 := Box.mk (mono_bel hb3.out hb5 (Nat.le_refl _))
            clear hb5
            have h1 := rconsistent_any j i O R C p a3 c3 w7 (hT3.out.pa hp.out) hcf hos (by omega)
            rw [o2] at h1
            clear o2 hcf hT3
            go_wp2_with fail
            refine h1.mono ?_
            clear h1
            rintro e w8 ⟨rfl, hb5⟩
            have hfin := Box.mk (mono_bel hbw.out (mono_bel hb3.out hb5 (Nat.le_refl _)) (Nat.le_refl _))
            clear hb5 hb3 hbw
            go_wp2_with fail
            go_ret
            exact ⟨rfl, hfin.out⟩
          · have hcn : conL I (j : Int) = [] := by unfold conL; rw [if_neg (by rw [hil.out]; omega)]
            have hce : conE I (j : Int) = 1 := by unfold conE; rw [if_neg (by rw [hil.out]; omega)]
            rw [hcn, hce] at hPr
            have hjii : (j : Int) > (i : Int) := by omega
            clear hS hjl hjs hjf hKr hTr hIf hcn hce hlt hj hcl hcf hRs hDC hDR hos
            go_wp2_with fail
            refine hPr.mono ?_
            clear hPr
            rintro e w3 ⟨v3, rfl, hT3, hb3⟩
            obtain ⟨a3, c3, rfl⟩ := hT3.shape
            have h1 := hSz.out w3 hb3
            have hfin := Box.mk (mono_bel hbw.out hb3 (Nat.le_refl _))
            simp only [List.length_nil]
            clear hT3 hb3 hSz hbw
            go_wp2_with fail
            refine h1.mono ?_
            clear h1
            rintro e w4 ⟨rfl, rfl⟩
            go_wp2_with fail
            go_ret
            exact ⟨rfl, hfin.out⟩
end Go.Proofs.YtakmlbnjgkfaiaaDoor

namespace Go.Proofs.YtakmlbnjgkfaiaaDoor
open Go Go.RowKit

/-- The hashes of the first so many leaves. -/
def lvH (ps : List ByteArray) (i : Nat) : List ByteArray := (ps.take i).map leafH
theorem lvH_zero (ps : List ByteArray) : lvH ps 0 = [] := rfl
theorem lvH_succ (ps : List ByteArray) (i : Nat) (hi : i < ps.length) : lvH ps (i + 1) = lvH ps i ++ [leafH (ps.getD i ByteArray.empty)] := by
  unfold lvH
  rw [List.take_succ_eq_append_getElem hi, List.map_append, List.getD_eq_getElem?_getD, List.getElem?_eq_getElem hi]
  rfl
theorem lvH_length (ps : List ByteArray) (i : Nat) (hi : i ≤ ps.length) : (lvH ps i).length = i := by
  unfold lvH
  rw [List.length_map, List.length_take]; omega
theorem lvH_32 (ps : List ByteArray) (i : Nat) : ∀ x ∈ lvH ps i, x.size = 32 := fun x hx => by
  obtain ⟨i, _, rfl⟩ := List.mem_map.1 hx
  exact leafH_size _
theorem lvH_fit (ps : List ByteArray) (i : Nat) : Fit (lvH ps i) := fun x hx => by rw [lvH_32 ps i x hx]; omega
theorem lvH_take (ps : List ByteArray) (i j : Nat) (h : i ≤ j) : (lvH ps j).take i = lvH ps i := by
  unfold lvH
  rw [← List.map_take, List.take_take, Nat.min_eq_left h]
theorem lvH_get (ps : List ByteArray) (i j : Nat) (h : i < j) (hj : j ≤ ps.length) : (lvH ps j).getD i ByteArray.empty = leafH (ps.getD i ByteArray.empty) := by
  unfold lvH
  simp only [List.getD_eq_getElem?_getD, List.getElem?_map, List.getElem?_take_of_lt h, List.getElem?_eq_getElem (show i < ps.length by omega)]
  rfl
theorem GE.cs {w0 w : World} {g n gc nc : Nat} {v u vc : Value} {P Pc U : List ByteArray} (h : GE w0 w g n v P u U (some (gc, nc, vc, Pc))) : SAt w tSp gc nc vc Pc := (h.c _ _ _ _ rfl).1
/-- What the law's c is: none as yet, or the span of the first K leaves. -/
def CPS (ps : List ByteArray) (i K : Nat) (cp : Option (Nat × Nat × Value × List ByteArray)) (v6 : Value) : Prop :=
  (i ≤ K ∧ cp = none ∧ v6 = .pointer none) ∨ (K < i ∧ ∃ gc vc, cp = some (gc, K, vc, pkL (lvH ps K)) ∧ v6 = PtrS gc)
theorem CPS.next {ps : List ByteArray} {i K : Nat} {cp : Option (Nat × Nat × Value × List ByteArray)} {v6 : Value} (h : CPS ps i K cp v6) (hk : i ≠ K) : CPS ps (i + 1) K cp v6 := by
  rcases h with ⟨h1, h2⟩ | ⟨h1, h2⟩
  · exact .inl ⟨by omega, h2⟩
  · exact .inr ⟨by omega, h2⟩
theorem CPS.at {ps : List ByteArray} {K : Nat} {cp : Option (Nat × Nat × Value × List ByteArray)} {v6 : Value} (h : CPS ps K K cp v6) : cp = none ∧ v6 = .pointer none := by
  rcases h with ⟨h1, h2⟩ | ⟨h1, h2⟩
  · exact h2
  · omega
structure GR (w0 w : World) (g i K : Nat) (v6 u : Value) (ps : List ByteArray) : Prop where
  out : ∃ v cp, GE w0 w g i v (pkL (lvH ps i)) u (lvH ps i) cp ∧ CPS ps i K cp v6
theorem GR.zero (w0 w : World) (hb : Below w0.heap.size w0 w) (K : Nat) (ps : List ByteArray) : GR w0 (w.alloc (.cells #[.int .i64 0, .slice none 0 0] tSp)) w.heap.size 0 K (.pointer none) (.slice none 0 0) ps :=
  ⟨_, none, GE.zero w0 w hb, .inl ⟨Nat.zero_le _, rfl, rfl⟩⟩
set_option maxHeartbeats 6400000 in
set_option maxRecDepth 100000 in
theorem law_grows (a : Option Addr) (n c : Nat) (ps : List ByteArray) (K : Nat) (w : World) (hP : PA w a n c ps) (hK : KIs w) (hT : TIs w) (hk : K ≤ 255) (hz : ∀ s ∈ ps, s.size ≤ 140737488351232) :
    Calls Tryd.prog 3 #[.slice a n c, .int .u8 (K : Int)] w fun e w' => e = .returned (.bool true) ∧ Below w.heap.size w w' := by
  have hG := grows_any w hK hT
  obtain ⟨N, hN⟩ : ∃ N, min n 100 = N := ⟨_, rfl⟩
  have hmin : min (n : Int) 100 = (N : Int) := by omega
  have hNn : N ≤ n := by omega
  have hN100 : N ≤ 100 := by omega
  have hlen := hP.len
  have hcap := hP.cap
  have htop := hP.top
  have hPN := Box.mk hP
  replace hz := Box.mk hz
  replace hlen := Box.mk hlen
  replace hK := Box.mk hK
  replace hT := Box.mk hT
  clear hN hP
  go_enter Tryd.func3, Tryd.ntmps3
  go_wp2_with fail
  refine hG.mono ?_
  rintro e w1 ⟨rfl, hb1⟩
  clear hG
  have hS0 := Box.mk (GR.zero w w1 hb1 K ps)
  obtain ⟨w2, hw2⟩ : ∃ W, w1.alloc (.cells #[.int .i64 0, .slice none 0 0] 25) = W := ⟨_, rfl⟩
  rw [hw2] at hS0
  obtain ⟨g, hg⟩ : ∃ g, w1.heap.size = g := ⟨_, rfl⟩
  rw [hg] at hS0
  go_wp2_with fail
  clear hb1 hw2 hg
  go_loopw [6, 7, 23] (fun v6 v7 v23 wr => ∃ i : Nat, i ≤ N ∧ v23 = .int .i64 (i : Int) ∧ Box (GR w wr g i K v6 v7 ps)) (fun _ _ v23 _ => N - (intOf v23).toNat)
  case atStart => exact ⟨0, by omega, rfl, hS0⟩
  case round =>
    clear hS0
    obtain ⟨i, hi, rfl, hS⟩ := hrel
    obtain ⟨v, cp, hE, hc⟩ := hS.out.out
    clear hS
    obtain ⟨a7, c7, rfl⟩ := hE.a.shape
    have hil := lvH_length ps i (by rw [hlen.out]; omega)
    rw [hil] at hE ⊢
    have hS := Box.mk hE
    clear hE
    replace hc := Box.mk hc
    by_cases hlt : i < N
    · have hii : (i : Int) < (N : Int) := by omega
      obtain ⟨blk, off, rfl, hblk, hcell⟩ := hPN.out.at_ (by omega)
      have hIs := lvH_succ ps i (by rw [hlen.out]; omega)
      have hfJ := lvH_fit ps (i + 1)
      have hlJ := lvH_length ps (i + 1) (by rw [hlen.out]; omega)
      obtain ⟨t, ht⟩ : ∃ t, ps.getD i ByteArray.empty = t := ⟨_, rfl⟩
      have hts : t.size ≤ 140737488351232 := by
        rw [← ht, List.getD_eq_getElem?_getD, List.getElem?_eq_getElem (show i < ps.length by rw [hlen.out]; omega)]
        exact hz.out _ (List.getElem_mem _)
      have hcl : wr.cell? ⟨blk, off + i, none⟩ = some (.string t) := by rw [hS.out.bel.cell (p := ⟨blk, off + i, none⟩) hblk, hcell i (by omega), ht]
      rw [ht] at hIs
      have hLf := Box.mk fun w' => rleaf_any t w' (by omega)
      have hys := leafH_size t
      obtain ⟨y, hy⟩ : ∃ y, leafH t = y := ⟨_, rfl⟩
      rw [hy] at hLf hys hIs
      have hfI := Box.mk (lvH_fit ps i)
      obtain ⟨I, hI⟩ : ∃ I, lvH ps i = I := ⟨_, rfl⟩
      obtain ⟨J, hJ⟩ : ∃ J, lvH ps (i + 1) = J := ⟨_, rfl⟩
      rw [hI] at hS hil hIs hfI
      rw [hJ] at hIs hfJ hlJ
      replace hIs := Box.mk hIs
      replace hfJ := Box.mk hfJ
      replace hlJ := Box.mk hlJ
      replace hil := Box.mk hil
      replace hI := Box.mk hI
      replace hJ := Box.mk hJ
      clear hcell hblk ht hy hmin
      by_cases hik : i = K
      · subst hik
        obtain ⟨rfl, rfl⟩ := hc.out.at
        have h1 := ge_copy hS.out (by omega)
        unfold PtrS at h1
        clear hS
        go_wp2_with fail
        refine h1.mono ?_
        clear h1
        rintro e w3 ⟨gc, vc, rfl, hS3⟩
        replace hS3 := Box.mk hS3
        replace hc : Box (CPS ps (i + 1) i (some (gc, i, vc, pkL I)) (PtrS gc)) := ⟨.inr ⟨by omega, gc, vc, by rw [hI.out], rfl⟩⟩
        unfold PtrS at hc
        go_wp2_with fail
        refine (hLf.out w3).mono ?_
        rintro e w4 ⟨rfl, hb4⟩
        have hS4 := Box.mk (hS3.out.here hb4)
        have hpn := Box.mk (parts_new w4 [y] 9)
        clear hS3 hb4 hLf
        go_wp2_with (at_builtin; refine wpList_pushT rfl (.tmp 35) (.tmp 37) rfl w.heap.size _ I [y] rfl (hS4.out.a.here (bel_alloc _ _)) (by have := hS4.out.bel.size; simp; omega) (some ⟨w4.heap.size, 0, none⟩) 1 1 rfl rfl hpn.out (by rw [hil.out]; omega) ?_)
        rintro v5 w5 hp
        have hS5 := (hS4.out.here (bel_alloc _ _)).push hp
        rw [← hIs.out] at hS5
        obtain ⟨a5, c5, rfl⟩ := hS5.a.shape
        rw [hlJ.out] at hS5 ⊢
        have h1 := ge_append hS5 hil.out y (hK.out.below hS5.bel hK.out.lt) (hT.out.below hS5.bel hT.out.lt) hfI.out (by omega) (by omega)
        rw [← hIs.out] at h1
        unfold PtrS at h1
        clear hp hS4 hpn hS5
        go_wp2_with fail
        refine h1.mono ?_
        rintro e w6 ⟨rfl, v6', hS6⟩
        have hT6 := (hK.out.below hS6.bel hK.out.lt)
        have hPJ := hS6.a.pa hlJ.out
        have hSz := size_any g (i + 1) _ _ w6 hS6.s
        have hRt := sat_root hS6.s hT6 hfJ.out (by omega)
        have hDR := fun w' hb => rroot_any (i + 1) J a5 c5 w' (hPJ.here hb) hfJ.out
        have hPk := fun w' hb => peaks_any g (i + 1) _ _ w' (hS6.here hb).s (hS6.small (by omega))
        have hDP := fun w' hb => rpeaks_any a5 (i + 1) c5 J w' (hPJ.here hb) hfJ.out (by omega)
        unfold PtrS at hSz hRt hPk
        unfold RowIs at hPk hDP
        have hsm := hS6.small (by omega)
        obtain ⟨R, hR⟩ : ∃ R, rootL J = R := ⟨_, rfl⟩
        rw [hR] at hRt hDR
        obtain ⟨Q, hQ⟩ : ∃ Q, pkL J = Q := ⟨_, rfl⟩
        rw [hQ] at hPk hDP hsm
        replace hS6 := Box.mk hS6
        replace hDR := Box.mk hDR
        replace hPk := Box.mk hPk
        replace hDP := Box.mk hDP
        replace hsm := Box.mk hsm
        replace hQ := Box.mk hQ
        clear h1 hT6 hPJ hR
        go_wp2_with fail
        refine hSz.mono ?_
        clear hSz
        rintro e w7 ⟨rfl, rfl⟩
        go_wp2_with fail
        refine hRt.mono ?_
        clear hRt
        rintro e w7 ⟨rfl, hb⟩
        have h1 := hDR.out w7 hb
        replace hb := Box.mk hb
        clear hDR
        go_wp2_with fail
        refine h1.mono ?_
        clear h1
        rintro e w8 ⟨rfl, hb2⟩
        replace hb := Box.mk (mono_bel hb.out hb2 (Nat.le_refl _))
        have h1 := hPk.out w8 hb.out
        clear hPk hb2
        go_wp2_with fail
        refine h1.mono ?_
        clear h1
        rintro e w9 ⟨v9, rfl, hT9, hb2⟩
        replace hb := Box.mk (mono_bel hb.out hb2 (Nat.le_refl _))
        have h1 := hDP.out w9 hb.out
        replace hT9 := Box.mk hT9
        clear hDP hb2
        go_wp2_with fail
        refine h1.mono ?_
        clear h1
        rintro e w10 ⟨v10, rfl, hT10, hb2⟩
        have h1 := same_any _ _ Q Q w10 (hT9.out.here hb2).parts hT10.parts (by have := hsm.out; unfold maxLen; omega)
        rw [texB_same] at h1
        replace hb := Box.mk (mono_bel hb.out hb2 (Nat.le_refl _))
        clear hT9 hT10 hb2
        go_wp2_with fail
        refine h1.mono ?_
        clear h1
        rintro e w11 ⟨rfl, hb2⟩
        have hS7 := Box.mk (hS6.out.here (mono_bel hb.out hb2 (Nat.le_refl _)))
        clear hb hb2 hS6
        go_wp2_with fail
        refine ⟨⟨i + 1, by omega, by go_num, ⟨⟨v6', _, ?_, hc.out⟩⟩⟩, by simp [intOf]; omega⟩
        rw [hJ.out]; exact hS7.out
      · have hik2 : ¬ (i : Int) = (K : Int) := by omega
        replace hc := Box.mk (hc.out.next hik)
        obtain ⟨w3, hw3⟩ : ∃ W, wr = W := ⟨_, rfl⟩
        rw [hw3] at hS hcl ⊢
        have hS3 := hS
        clear hS hw3
        go_wp2_with fail
        refine (hLf.out w3).mono ?_
        rintro e w4 ⟨rfl, hb4⟩
        have hS4 := Box.mk (hS3.out.here hb4)
        have hpn := Box.mk (parts_new w4 [y] 9)
        clear hS3 hb4 hLf
        go_wp2_with (at_builtin; refine wpList_pushT rfl (.tmp 35) (.tmp 37) rfl w.heap.size _ I [y] rfl (hS4.out.a.here (bel_alloc _ _)) (by have := hS4.out.bel.size; simp; omega) (some ⟨w4.heap.size, 0, none⟩) 1 1 rfl rfl hpn.out (by rw [hil.out]; omega) ?_)
        rintro v5 w5 hp
        have hS5 := (hS4.out.here (bel_alloc _ _)).push hp
        rw [← hIs.out] at hS5
        obtain ⟨a5, c5, rfl⟩ := hS5.a.shape
        rw [hlJ.out] at hS5 ⊢
        have h1 := ge_append hS5 hil.out y (hK.out.below hS5.bel hK.out.lt) (hT.out.below hS5.bel hT.out.lt) hfI.out (by omega) (by omega)
        rw [← hIs.out] at h1
        unfold PtrS at h1
        clear hp hS4 hpn hS5
        go_wp2_with fail
        refine h1.mono ?_
        rintro e w6 ⟨rfl, v6', hS6⟩
        have hT6 := (hK.out.below hS6.bel hK.out.lt)
        have hPJ := hS6.a.pa hlJ.out
        have hSz := size_any g (i + 1) _ _ w6 hS6.s
        have hRt := sat_root hS6.s hT6 hfJ.out (by omega)
        have hDR := fun w' hb => rroot_any (i + 1) J a5 c5 w' (hPJ.here hb) hfJ.out
        have hPk := fun w' hb => peaks_any g (i + 1) _ _ w' (hS6.here hb).s (hS6.small (by omega))
        have hDP := fun w' hb => rpeaks_any a5 (i + 1) c5 J w' (hPJ.here hb) hfJ.out (by omega)
        unfold PtrS at hSz hRt hPk
        unfold RowIs at hPk hDP
        have hsm := hS6.small (by omega)
        obtain ⟨R, hR⟩ : ∃ R, rootL J = R := ⟨_, rfl⟩
        rw [hR] at hRt hDR
        obtain ⟨Q, hQ⟩ : ∃ Q, pkL J = Q := ⟨_, rfl⟩
        rw [hQ] at hPk hDP hsm
        replace hS6 := Box.mk hS6
        replace hDR := Box.mk hDR
        replace hPk := Box.mk hPk
        replace hDP := Box.mk hDP
        replace hsm := Box.mk hsm
        replace hQ := Box.mk hQ
        clear h1 hT6 hPJ hR
        go_wp2_with fail
        refine hSz.mono ?_
        clear hSz
        rintro e w7 ⟨rfl, rfl⟩
        go_wp2_with fail
        refine hRt.mono ?_
        clear hRt
        rintro e w7 ⟨rfl, hb⟩
        have h1 := hDR.out w7 hb
        replace hb := Box.mk hb
        clear hDR
        go_wp2_with fail
        refine h1.mono ?_
        clear h1
        rintro e w8 ⟨rfl, hb2⟩
        replace hb := Box.mk (mono_bel hb.out hb2 (Nat.le_refl _))
        have h1 := hPk.out w8 hb.out
        clear hPk hb2
        go_wp2_with fail
        refine h1.mono ?_
        clear h1
        rintro e w9 ⟨v9, rfl, hT9, hb2⟩
        replace hb := Box.mk (mono_bel hb.out hb2 (Nat.le_refl _))
        have h1 := hDP.out w9 hb.out
        replace hT9 := Box.mk hT9
        clear hDP hb2
        go_wp2_with fail
        refine h1.mono ?_
        clear h1
        rintro e w10 ⟨v10, rfl, hT10, hb2⟩
        have h1 := same_any _ _ Q Q w10 (hT9.out.here hb2).parts hT10.parts (by have := hsm.out; unfold maxLen; omega)
        rw [texB_same] at h1
        replace hb := Box.mk (mono_bel hb.out hb2 (Nat.le_refl _))
        clear hT9 hT10 hb2
        go_wp2_with fail
        refine h1.mono ?_
        clear h1
        rintro e w11 ⟨rfl, hb2⟩
        have hS7 := Box.mk (hS6.out.here (mono_bel hb.out hb2 (Nat.le_refl _)))
        clear hb hb2 hS6
        go_wp2_with fail
        refine ⟨⟨i + 1, by omega, by go_num, ⟨⟨v6', _, ?_, hc.out⟩⟩⟩, by simp [intOf]; omega⟩
        rw [hJ.out]; exact hS7.out
    · obtain rfl : i = N := by omega
      have hnl : ¬ (i : Int) < (i : Int) := by omega
      rcases hc.out with ⟨hc1, rfl, rfl⟩ | ⟨hc1, gc, vc, rfl, rfl⟩
      · have hfin := Box.mk hS.out.bel
        clear hS hc
        go_wp2_with fail
        go_ret
        exact ⟨rfl, hfin.out⟩
      · have hKr := hK.out.below hS.out.bel hK.out.lt
        have hPA := hS.out.a.pa hil
        have htk := lvH_take ps K i (by omega)
        have hlK := lvH_length ps K (by rw [hlen.out]; omega)
        have hfK := lvH_fit ps K
        have hfi := lvH_fit ps i
        have hlt7 := hPA.cap
        have htp7 := hPA.top
        obtain ⟨bl7, of7, rfl, _, _⟩ := hPA.at_ (by omega)
        have hSz := fun w' hb => size_any gc K vc _ w' (hS.out.here hb).cs
        have hRt := fun w' (hb : Below wr.heap.size wr w') => sat_root (hS.out.here hb).cs (hKr.up hb) hfK (by omega)
        have hDR := fun w' (hb : Below wr.heap.size wr w') => rroot_any K (lvH ps K) (some ⟨bl7, of7, none⟩) c7 w' (by have := (hPA.here hb).take (k := K) (by omega); rwa [htk] at this) hfK
        obtain ⟨R, hR⟩ : ∃ R, rootL (lvH ps K) = R := ⟨_, rfl⟩
        rw [hR] at hRt hDR
        unfold PtrS at hSz hRt
        clear hc hPN hPA htk hfK hlK hR hKr hfi hmin
        unfold PtrS
        go_wp2_with fail
        refine region_quiet (fun w' => Below wr.heap.size wr w') (by kernel_rfl) (by kernel_rfl) (dB _) ?_
        repeat (go_big_quiet_step (first | exact fun _ => rfl | rfl))
        refine quiet_call rfl (.int .i64 (K : Int)) (fun w' hw' => (hSz w' hw').mono fun e w2 h => ⟨h.1, h.2 ▸ hw'⟩) (fun w' _ => by go_simp) ?_
        simp only [Act.put, List.setIfInBounds_toArray, List.set_cons_succ, List.set_cons_zero]
        repeat (go_big_quiet_step (first | exact fun _ => rfl | rfl))
        refine quiet_call rfl (.string R) (fun w' hw' => bel_call (hRt w' hw') hw') (fun w' _ => by go_simp) ?_
        simp only [Act.put, List.setIfInBounds_toArray, List.set_cons_succ, List.set_cons_zero]
        repeat (go_big_quiet_step (first | exact fun _ => rfl | rfl))
        refine quiet_call rfl (.string R) (fun w' hw' => bel_call (hDR w' hw') hw') (fun w' _ => by go_simp) ?_
        simp only [Act.put, List.setIfInBounds_toArray, List.set_cons_succ, List.set_cons_zero]
        repeat (go_big_quiet_step (first | exact fun _ => rfl | rfl))
        refine wpQuiet_nil ?_
        clear hSz hRt hDR
        intro w3 hw3
        obtain ⟨M, hM⟩ : ∃ M, i - K = M := ⟨_, rfl⟩
        have hKM : K + M = i := by omega
        have hc7 : c7 ≠ K := by omega
        have hS0 := Box.mk (hS.out.here hw3)
        clear hS hw3
        go_wp2_with fail
        have hJ0 : K = K + 0 := rfl
        replace hS0 : Box (∃ vc, GE w w3 g i v (pkL (lvH ps i)) (.slice (some ⟨bl7, of7, none⟩) i c7) (lvH ps i) (some (gc, K + 0, vc, pkL (lvH ps (K + 0))))) := ⟨⟨vc, hS0.out⟩⟩
        try rw [hM]
        clear hJ0 hc7 hM
        go_loopw [80] (fun v80 wr => ∃ j : Nat, j ≤ M ∧ v80 = .int .i64 (j : Int) ∧ Box (∃ vc, GE w wr g i v (pkL (lvH ps i)) (.slice (some ⟨bl7, of7, none⟩) i c7) (lvH ps i) (some (gc, K + j, vc, pkL (lvH ps (K + j)))))) (fun v80 _ => M - (intOf v80).toNat)
        case atStart => exact ⟨0, by omega, rfl, hS0⟩
        case round =>
          clear hS0
          obtain ⟨j, hj, rfl, hS⟩ := hrel
          obtain ⟨vd, hE⟩ := hS.out
          have hS := Box.mk hE
          clear hE
          by_cases hlt2 : j < M
          · have hjj : (j : Int) < (M : Int) := by omega
            have hcl : wr.cell? ⟨bl7, of7 + K + j, none⟩ = some (.string (leafH (ps.getD (K + j) ByteArray.empty))) := by
              obtain ⟨_, _, e, _, hcc⟩ := (hS.out.a.pa hil).at_ (by omega)
              cases e
              rw [Nat.add_assoc, hcc (K + j) (by omega), lvH_get ps (K + j) i (by omega) (by rw [hlen.out]; omega)]
            have hys := leafH_size (ps.getD (K + j) ByteArray.empty)
            have hIs := lvH_succ ps (K + j) (by rw [hlen.out]; omega)
            obtain ⟨y, hy⟩ : ∃ y, leafH (ps.getD (K + j) ByteArray.empty) = y := ⟨_, rfl⟩
            rw [hy] at hcl hys hIs
            have h1 := ge_cappend hS.out (lvH_length ps (K + j) (by rw [hlen.out]; omega)) y (hK.out.below hS.out.bel hK.out.lt) (hT.out.below hS.out.bel hT.out.lt) (lvH_fit ps (K + j)) (by omega) (by omega)
            rw [← hIs] at h1
            unfold PtrS at h1
            clear hy hIs hS
            go_wp2_with fail
            refine h1.mono ?_
            clear h1
            rintro e w4 ⟨rfl, hS⟩
            replace hS := Box.mk hS
            go_wp2_with fail
            exact ⟨⟨j + 1, by omega, by go_num, hS⟩, by simp [intOf]; omega⟩
          · obtain rfl : j = M := by omega
            have hnl2 : ¬ (j : Int) < (j : Int) := by omega
            rw [hKM] at hS
            have hKr := hK.out.below hS.out.bel hK.out.lt
            have hfi := lvH_fit ps i
            have hRc := fun w' (hb : Below wr.heap.size wr w') => sat_root (hS.out.here hb).cs (hKr.up hb) hfi (by omega)
            have hRs := fun w' (hb : Below wr.heap.size wr w') => sat_root (hS.out.here hb).s (hKr.up hb) hfi (by omega)
            have hSc := fun w' (hb : Below wr.heap.size wr w') => size_any gc i vd _ w' (hS.out.here hb).cs
            have hSs := fun w' (hb : Below wr.heap.size wr w') => size_any g i v _ w' (hS.out.here hb).s
            have hfin := Box.mk hS.out.bel
            obtain ⟨X, hX⟩ : ∃ X, rootL (lvH ps i) = X := ⟨_, rfl⟩
            rw [hX] at hRc hRs
            unfold PtrS at hRc hRs hSc hSs
            replace hRc := Box.mk hRc
            replace hRs := Box.mk hRs
            replace hSc := Box.mk hSc
            replace hSs := Box.mk hSs
            have h1 := hRc.out wr (Below.refl _ _)
            clear hX hfi hKr hS hKM
            go_wp2_with fail
            refine h1.mono ?_
            clear h1
            rintro e w4 ⟨rfl, hb⟩
            have h1 := hRs.out w4 hb
            replace hb := Box.mk hb
            go_wp2_with fail
            refine h1.mono ?_
            clear h1
            rintro e w5 ⟨rfl, hb2⟩
            replace hb := Box.mk (mono_bel hb.out hb2 (Nat.le_refl _))
            clear hb2
            have h1 := hSc.out w5 hb.out
            go_wp2_with fail
            refine h1.mono ?_
            clear h1
            rintro e w6 ⟨rfl, rfl⟩
            have h1 := hSs.out w5 hb.out
            go_wp2_with fail
            refine h1.mono ?_
            clear h1
            rintro e w6 ⟨rfl, rfl⟩
            replace hfin := Box.mk (mono_bel hfin.out hb.out (Nat.le_refl _))
            go_wp2_with fail
            go_ret
            exact ⟨rfl, hfin.out⟩
end Go.Proofs.YtakmlbnjgkfaiaaDoor

namespace Go.Proofs.YtakmlbnjgkfaiaaDoor
open Go Go.RowKit

set_option maxHeartbeats 6400000 in
set_option maxRecDepth 100000 in
theorem law_bytes (a : Option Addr) (n c : Nat) (ps : List ByteArray) (x : ByteArray) (w : World) (hP : PA w a n c ps) (hK : KIs w) (hT : TIs w) (hz : ∀ s ∈ ps, s.size ≤ 140737488351232) (hx : x.size ≤ 140737488351232) :
    Calls Tryd.prog 5 #[.slice a n c, .string x] w fun e w' => e = .returned (.bool true) ∧ Below w.heap.size w w' := by
  have hG := grows_any w hK hT
  obtain ⟨N, hN⟩ : ∃ N, min n 60 = N := ⟨_, rfl⟩
  have hmin : min (n : Int) 60 = (N : Int) := by omega
  have hNn : N ≤ n := by omega
  have hN60 : N ≤ 60 := by omega
  have hlen := hP.len
  have hcap := hP.cap
  have htop := hP.top
  have hPN := Box.mk hP
  replace hz := Box.mk hz
  replace hlen := Box.mk hlen
  replace hK := Box.mk hK
  replace hT := Box.mk hT
  clear hN hP
  go_enter Tryd.func5, Tryd.ntmps5
  go_wp2_with fail
  refine hG.mono ?_
  rintro e w1 ⟨rfl, hb1⟩
  clear hG
  have hS0 : Box (∃ v, GE w (w1.alloc (.cells #[.int .i64 0, .slice none 0 0] tSp)) w1.heap.size 0 v (pkL (lvH ps 0)) (.slice none 0 0) [] none) := ⟨⟨_, GE.zero w w1 hb1⟩⟩
  obtain ⟨w2, hw2⟩ : ∃ W, w1.alloc (.cells #[.int .i64 0, .slice none 0 0] 25) = W := ⟨_, rfl⟩
  rw [hw2] at hS0
  obtain ⟨g, hg⟩ : ∃ g, w1.heap.size = g := ⟨_, rfl⟩
  rw [hg] at hS0
  go_wp2_with fail
  clear hb1 hw2 hg hmin
  go_loopw [26] (fun q wr => ∃ i : Nat, i ≤ N ∧ q = .int .i64 (i : Int) ∧ Box (∃ v, GE w wr g i v (pkL (lvH ps i)) (.slice none 0 0) [] none)) (fun q _ => N - (intOf q).toNat)
  case atStart => exact ⟨0, by omega, rfl, hS0⟩
  case round =>
    clear hS0
    obtain ⟨i, hi, rfl, hS⟩ := hrel
    obtain ⟨v, hE⟩ := hS.out
    have hKr := hK.out.below hE.bel hK.out.lt
    have hTr := hT.out.below hE.bel hT.out.lt
    have hil := lvH_length ps i (by rw [hlen.out]; omega)
    by_cases hlt : i < N
    · have hii : (i : Int) < (N : Int) := by omega
      obtain ⟨blk, off, rfl, hblk, hcell⟩ := hPN.out.at_ (by omega)
      have hIs := lvH_succ ps i (by rw [hlen.out]; omega)
      obtain ⟨t, ht⟩ : ∃ t, ps.getD i ByteArray.empty = t := ⟨_, rfl⟩
      have hts : t.size ≤ 140737488351232 := by
        rw [← ht, List.getD_eq_getElem?_getD, List.getElem?_eq_getElem (show i < ps.length by rw [hlen.out]; omega)]
        exact hz.out _ (List.getElem_mem _)
      have hcl : wr.cell? ⟨blk, off + i, none⟩ = some (.string t) := by rw [hE.bel.cell (p := ⟨blk, off + i, none⟩) hblk, hcell i (by omega), ht]
      rw [ht] at hIs
      have hLf := rleaf_any t wr (by omega)
      have hys := leafH_size t
      obtain ⟨y, hy⟩ : ∃ y, leafH t = y := ⟨_, rfl⟩
      rw [hy] at hLf hys hIs
      have hAp := Box.mk fun w' (hb : Below wr.heap.size wr w') => ge_append (hE.here hb) hil y (hKr.up hb) (hTr.up hb) (lvH_fit ps i) (by omega) (by omega)
      rw [← hIs] at hAp
      clear hcell hblk ht hy hS hE hKr hTr hil hIs hys
      go_wp2_with fail
      refine hLf.mono ?_
      rintro e w3 ⟨rfl, hb3⟩
      have h1 := hAp.out w3 hb3
      unfold PtrS at h1
      clear hLf hAp hb3
      go_wp2_with fail
      refine h1.mono ?_
      clear h1
      rintro e w4 ⟨rfl, hS4⟩
      replace hS4 := Box.mk hS4
      go_wp2_with fail
      exact ⟨⟨i + 1, by omega, by go_num, hS4⟩, by simp [intOf]; omega⟩
    · obtain rfl : i = N := by omega
      have hnl : ¬ (i : Int) < (i : Int) := by omega
      have h32 := pkL_32 _ (lvH_32 ps i)
      have hPf := fit_pkL (lvH_fit ps i)
      have hSA := hE.s
      have hb0 := Box.mk hE.bel
      obtain ⟨P, hPe⟩ : ∃ P, pkL (lvH ps i) = P := ⟨_, rfl⟩
      rw [hPe] at h32 hPf hSA
      have hPl : P.length = pcN i := hSA.len
      have hP64 := hE.small (by omega)
      rw [hPe] at hP64
      have h1 := sbytes_any g i v P wr hSA hP64
      have hbE := sp_ansE i P (by omega) h32
      have hbT := sp_ansT i P (by omega) h32
      have hbS := sp_size i P (by omega) h32
      obtain ⟨b1, b2, b3⟩ := sp_back i P (by omega) hPl h32
      obtain ⟨T, hTe⟩ : ∃ T, ansT (spI i P) = T := ⟨_, rfl⟩
      unfold BytIs at h1
      rw [hTe] at hbT hbS h1
      rw [hbE] at h1
      have hRd := fun w' => (sread_any T w').mono fun e w'' h => h.1 (by rw [hbT]; exact b3)
      rw [hbT, b1, b2] at hRd
      replace hRd := Box.mk hRd
      have hRt := Box.mk fun w' (hb : Below wr.heap.size wr w') => sroot_any g i v P w' (hSA.here hb) (hKr.up hb) hPf (by omega)
      have hSz := Box.mk fun w' (hb : Below wr.heap.size wr w') => size_any g i v P w' (hSA.here hb)
      have hT0 : 8 ≤ T.size := by omega
      have hT1 : T.size ≤ 2056 := by omega
      replace hPf := Box.mk hPf
      replace hKr := Box.mk hKr
      obtain ⟨R, hR⟩ : ∃ R, foldP P = R := ⟨_, rfl⟩
      rw [hR] at hRt
      replace hR := Box.mk hR
      unfold PtrS at h1 hRt hSz
      clear hS hE hTr hil h32 hPe hbT hbS b1 b2 b3 hTe hbE hSA hPl hP64
      go_wp2_with fail
      refine h1.mono ?_
      clear h1
      rintro e w3 ⟨rfl, hb3⟩
      have h1 := hRd.out w3
      replace hb3 := Box.mk hb3
      clear hRd
      go_wp2_with fail
      refine h1.mono ?_
      clear h1
      rintro e w4 ⟨g2, rfl, hN2⟩
      obtain ⟨v2, hA2, hg2, hv2, hb4⟩ := hN2.out
      have hb4 := Box.mk (mono_bel hb3.out hb4 (Nat.le_refl _))
      replace hA2 := Box.mk hA2
      clear hN2 hg2 hv2 hb3
      unfold PtrS
      have h1 := sroot_any g2 i v2 P w4 hA2.out (hKr.out.up hb4.out) hPf.out (by omega)
      rw [hR.out] at h1
      unfold PtrS at h1
      go_wp2_with fail
      refine h1.mono ?_
      clear h1
      rintro e w5 ⟨rfl, hb5⟩
      replace hA2 := Box.mk (hA2.out.here hb5)
      replace hb4 := Box.mk (mono_bel hb4.out hb5 (Nat.le_refl _))
      clear hb5
      have h1 := hRt.out w5 hb4.out
      go_wp2_with fail
      refine h1.mono ?_
      clear h1 hRt
      rintro e w6 ⟨rfl, hb5⟩
      replace hA2 := Box.mk (hA2.out.here hb5)
      replace hb4 := Box.mk (mono_bel hb4.out hb5 (Nat.le_refl _))
      clear hb5
      have h1 := size_any g2 i v2 P w6 hA2.out
      unfold PtrS at h1
      go_wp2_with fail
      refine h1.mono ?_
      clear h1 hA2
      rintro e w7 ⟨rfl, rfl⟩
      have h1 := hSz.out w6 hb4.out
      go_wp2_with fail
      refine h1.mono ?_
      clear h1 hSz
      rintro e w7 ⟨rfl, rfl⟩
      have hb9 := Box.mk (mono_bel hb0.out hb4.out (Nat.le_refl _))
      clear hb4 hb0 hKr hR hPf
      go_wp2_with fail
      have hnew := Pk.Blk.new w6 [.string x, .string (T ++ x), .string (x ++ T), .string (T.extract 0 (T.size - 1))] 9
      have hb10 := mono_bel hb9.out (bel_alloc w6 (.cells #[.string x, .string (T ++ x), .string (x ++ T), .string (T.extract 0 (T.size - 1))] 9)) (Nat.le_refl _)
      obtain ⟨nb, hnb⟩ : ∃ nb, w6.heap.size = nb := ⟨_, rfl⟩
      rw [hnb] at hnew ⊢
      obtain ⟨ts, hts, htl⟩ : ∃ ts : List ByteArray, [Value.string x, .string (T ++ x), .string (x ++ T), .string (T.extract 0 (T.size - 1))] = ts.map Value.string ∧ ts.length = 4 := ⟨[x, T ++ x, x ++ T, T.extract 0 (T.size - 1)], rfl, rfl⟩
      rw [hts] at hnew
      obtain ⟨wA, hwA⟩ : ∃ W, w6.alloc (.cells #[.string x, .string (T ++ x), .string (x ++ T), .string (T.extract 0 (T.size - 1))] 9) = W := ⟨_, rfl⟩
      have hwA2 : w6.alloc (.cells ([Value.string x, .string (T ++ x), .string (x ++ T), .string (T.extract 0 (T.size - 1))] : List Value).toArray 9) = wA := hwA
      rw [hts] at hwA2
      rw [hwA2] at hnew
      rw [hwA] at hb10 ⊢
      have hcl := Box.mk fun w' (hb : Below wA.heap.size wA w') j (hj : j < 4) => (show w'.cell? ⟨nb, j, none⟩ = some (.string (ts.getD j ByteArray.empty)) by
        have h2 := (hb.block nb (Pk.Blk.lt hnew)).trans hnew
        rw [Pk.Blk.cell (b := nb) (w := w') h2 j]
        simp [List.getD, show j < ts.length by omega])
      have hB0 := Box.mk (Below.refl wA.heap.size wA)
      replace hb10 := Box.mk hb10
      clear hwA hwA2 hnew hts htl hnb hb9
      go_loopw [75] (fun q wr => ∃ j : Nat, j ≤ 4 ∧ q = .int .i64 (j : Int) ∧ Box (Below wA.heap.size wA wr)) (fun q _ => 4 - (intOf q).toNat)
      case atStart => exact ⟨0, by omega, rfl, hB0⟩
      case round =>
        clear hB0
        obtain ⟨j, hj, rfl, hB⟩ := hrel
        by_cases hlt4 : j < 4
        · have hjj : (j : Int) < 4 := by omega
          have q1 := hcl.out wr hB.out j hlt4
          obtain ⟨t, ht⟩ : ∃ t, ts.getD j ByteArray.empty = t := ⟨_, rfl⟩
          rw [ht] at q1
          have hKr := Box.mk (hK.out.below (mono_bel hb10.out hB.out (Nat.le_refl _)) hK.out.lt)
          have h1 := sread_any t wr
          have hDc := Box.mk fun w' => rsread_any t w'
          obtain ⟨l, hl⟩ : ∃ l, t.data.toList = l := ⟨_, rfl⟩
          rw [hl] at h1 hDc
          clear ht hl
          by_cases he : rdE l = 0
          · replace h1 := h1.mono fun e w'' h => h.1 he
            have hD := Box.mk fun w' => (hDc.out w').mono fun e w'' h => h.1 he
            have hN := rdN_lt l
            have hHf := Box.mk (rdH_fit l)
            have hHl : (rdH l).1.length ≤ 64 := by rw [rdH_len]; exact pcN_le 64 _ (by omega)
            obtain ⟨M, hM⟩ : ∃ M, rdN l = M := ⟨_, rfl⟩
            obtain ⟨Q, hQ⟩ : ∃ Q, (rdH l).1 = Q := ⟨_, rfl⟩
            rw [hM] at h1 hD hN
            rw [hQ] at h1 hD hHl hHf
            replace hHl := Box.mk hHl
            replace hN := Box.mk hN
            clear hM hQ he hDc
            go_wp2_with fail
            refine h1.mono ?_
            clear h1 q1
            rintro e w3 ⟨g3, rfl, hN3⟩
            obtain ⟨v3, hA3, hg3, hv3, hb3⟩ := hN3.out
            have h1 := hD.out w3
            replace hA3 := Box.mk hA3
            replace hb3 := Box.mk hb3
            unfold PtrS
            clear hN3 hg3 hv3 hD
            go_wp2_with fail
            refine h1.mono ?_
            clear h1
            rintro e w4 ⟨g4, rfl, hN4⟩
            obtain ⟨v4, hA4, hg4, hv4, hb4⟩ := hN4.out
            have hb34 := Box.mk (mono_bel hb3.out hb4 (Nat.le_refl _))
            have h1 := lsame_any g3 g4 M v3 v4 Q w4 (hA3.out.here hb4) hA4 (hKr.out.up hb34.out) hHf.out hN.out hHl.out
            unfold PtrS at h1
            unfold PtrS
            clear hN4 hg4 hv4 hb4 hb3 hA3 hA4
            go_wp2_with fail
            refine h1.mono ?_
            clear h1
            rintro e w5 ⟨rfl, hb5⟩
            have hB5 := Box.mk (mono_bel hB.out (mono_bel hb34.out hb5 (Nat.le_refl _)) (Nat.le_refl _))
            clear hb5 hb34 hB
            go_wp2_with fail
            exact ⟨⟨j + 1, by omega, by go_num, hB5⟩, by simp [intOf]; omega⟩
          · replace h1 := h1.mono fun e w'' h => h.2 he
            have hD := Box.mk fun w' => (hDc.out w').mono fun e w'' h => h.2 he
            obtain ⟨E, hE⟩ : ∃ E, rdE l = E := ⟨_, rfl⟩
            rw [hE] at h1 hD
            clear hE he hDc
            go_wp2_with fail
            refine h1.mono ?_
            clear h1 q1
            rintro e w3 ⟨rfl, hb3⟩
            have h1 := hD.out w3
            replace hb3 := Box.mk hb3
            clear hD
            go_wp2_with fail
            refine h1.mono ?_
            clear h1
            rintro e w4 ⟨rfl, hb4⟩
            have hB5 := Box.mk (mono_bel hB.out (mono_bel hb3.out hb4 (Nat.le_refl _)) (Nat.le_refl _))
            clear hb4 hb3 hB
            go_wp2_with fail
            exact ⟨⟨j + 1, by omega, by go_num, hB5⟩, by simp [intOf]; omega⟩
        · obtain rfl : j = 4 := by omega
          have hfin := Box.mk (mono_bel hb10.out hB.out (Nat.le_refl _))
          go_wp2_with fail
          go_ret
          exact ⟨rfl, hfin.out⟩
end Go.Proofs.YtakmlbnjgkfaiaaDoor
