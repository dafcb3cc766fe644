/- Row, in one text, in a namespace of their own. | Walks of the document's Number, id and Verify of layer 6. | Walk of the document's Verify of layer 6. | The document's key in memory; its New. | The document's key: ID, Left, Skip. | The document's key: At, Sign. | The operations of layer 6's law, read; how long their texts are. | A key of the program's and one of the document's beside each other. | A region that draws its order and calls, walked once: every call yields one value in every world of a class, and leaves a world of it. No program is named. -/
import Derived.Deep.Cut
import Derived.SliceStrings
import Derived.SizedLaws
import Derived.OpenShut
import Derived.ChangeMaps5
import Derived.Deep.Slices
import Derived.Deep.DeepHandedRow
import Derived.BigQuiet
import Derived.Test.YtbnmdieadaeeiaaGreatDoorKPk
import Derived.Test.YtbnmdieadaeeiaaGreatDoorKyF
import Derived.Test.YtbnmdieadaeeiaaGreatDoorOtU
import Derived.Test.YtbnmdieadaeeiaaGreatDoorShaH
import Derived.Test.YtbnmdieadaeeiaaGreatDoorKyG
/- Rows of any elements: append onto a row that is owned, told with where the new row lies; a row's cells; a row from nothing. -/
namespace Go.Proofs.YtbnmdieadaeeiaaGreatDoor.Pk
open Go Go.RowKit

/-- v owns a row of n elements of e, size cells each, that hold xs. -/
def Row (w : World) (e : TypeId) (size : Nat) (v : Value) (n : Nat) (xs : List Value) : Prop := w.ownsRow 0 e size v n xs
theorem Row.nil (w : World) (e : TypeId) (size : Nat) : Row w e size (.slice none 0 0) 0 [] := World.ownsRow_nil _ _ _ _
theorem Row.shape {w : World} {e : TypeId} {size : Nat} {v : Value} {n : Nat} {xs : List Value} (h : Row w e size v n xs) : ∃ a c, v = .slice a n c := by
  obtain ⟨_, ⟨rfl, rfl⟩ | ⟨g, cap, cur, rfl, _⟩⟩ := h
  · exact ⟨none, 0, rfl⟩
  · exact ⟨_, _, rfl⟩
theorem Row.lt {w : World} {e : TypeId} {size : Nat} {v : Value} {n : Nat} {xs : List Value} (h : Row w e size v n xs) (k : Nat) (hk : v.ownBlock = some k) : k < w.heap.size := (World.ownsRow.lt h k hk).2
theorem Row.kept {w w' : World} {e : TypeId} {size : Nat} {v : Value} {n : Nat} {xs : List Value} (h : Row w e size v n xs) (hk : ∀ k, v.ownBlock = some k → w'.heap[k]? = w.heap[k]?) : Row w' e size v n xs := by
  obtain ⟨h1, h0 | ⟨g, cap, cur, rfl, a1, hg, a2⟩⟩ := h
  · exact ⟨h1, .inl h0⟩
  · exact ⟨h1, .inr ⟨g, cap, cur, rfl, a1, (hk g rfl).trans hg, a2⟩⟩
theorem Row.chg {S : Nat → Prop} {w w' : World} {e : TypeId} {size : Nat} {v : Value} {n : Nat} {xs : List Value} (h : Row w e size v n xs) (hc : Chg S w w') (hn : ∀ k, v.ownBlock = some k → ¬ S k) : Row w' e size v n xs :=
  h.kept fun k hk => hc.block k (h.lt k hk) (hn k hk)
/-- A row isn't a block of another type. -/
theorem Row.apart {w : World} {e : TypeId} {size : Nat} {v : Value} {n : Nat} {xs : List Value} {b : Nat} {cs : List Value} {t : TypeId} (h : Row w e size v n xs) (hb : Blk w b cs t) (ht : t ≠ e) : v.ownBlock ≠ some b := by
  intro e1
  obtain ⟨_, ⟨rfl, h0⟩ | ⟨g, cap, cur, rfl, _, hg, _⟩⟩ := h
  · cases e1
  · obtain rfl : g = b := by simpa [Value.ownBlock] using e1
    unfold Blk at hb
    rw [hg] at hb
    simp at hb
    exact ht hb.2.symm
/-- .. nor a row of elements of another type. -/
theorem Row.unlike {w : World} {e f : TypeId} {size sz : Nat} {v u : Value} {n m : Nat} {xs ys : List Value} (h : Row w e size v n xs) (k : Row w f sz u m ys) (hf : e ≠ f) (j : Nat) (hv : v.ownBlock = some j) : u.ownBlock ≠ some j := by
  intro hu
  obtain ⟨_, ⟨rfl, _⟩ | ⟨g, cap, cur, rfl, _, hg, _⟩⟩ := h
  · cases hv
  · obtain ⟨_, ⟨rfl, _⟩ | ⟨g2, cap2, cur2, rfl, _, hg2, _⟩⟩ := k
    · cases hu
    · obtain rfl : g = j := by simpa [Value.ownBlock] using hv
      obtain rfl : g2 = g := by simpa [Value.ownBlock] using hu
      rw [hg] at hg2
      simp at hg2
      exact hf hg2.2
theorem Row.cells {w : World} {e : TypeId} {size n c g : Nat} {xs : List Value} (h : Row w e size (.slice (some ⟨g, 0, none⟩) n c) n xs) (j : Nat) (u : Value) (hj : xs[j]? = some u) : w.cell? ⟨g, j, none⟩ = some u := by
  have := World.ownsRow.cells (g := g) h rfl j u hj
  have hadd : (⟨g, 0, none⟩ : Addr).add j = ⟨g, j, none⟩ := by unfold Addr.add; split <;> simp_all
  rw [hadd] at this; exact this
theorem Row.some {w : World} {e : TypeId} {size : Nat} {v : Value} {n : Nat} {xs : List Value} (h : Row w e size v n xs) (hn : 0 < n) : ∃ g c, v = .slice (some ⟨g, 0, none⟩) n c ∧ g < w.heap.size := by
  obtain ⟨_, ⟨rfl, rfl⟩ | ⟨g, cap, cur, rfl, _, hg, _⟩⟩ := h
  · omega
  · exact ⟨g, cap, rfl, (Array.getElem?_eq_some_iff.1 hg).1⟩

/-- What an append onto v leaves. -/
structure PushedRow (w : World) (e : TypeId) (size : Nat) (v : Value) (n : Nat) (xs : List Value) (v' : Value) (w' : World) : Prop where
  row : Row w' e size v' n xs
  chg : Chg (fun k => v.ownBlock = some k) w w'
  place : ∀ k, v'.ownBlock = some k → v.ownBlock = some k ∨ w.heap.size ≤ k
theorem push_row {P : Program} (w : World) (t ty e : TypeId) (i : TypeInfo) (z : Value) (size bytes : Nat) (ht : P.underlying t = some (.slice e)) (hi : P.info? e = some i) (hz : i.zero = some z)
    (hsize : i.size = size) (hby : i.bytes = bytes) (hzs : z.cells.size = size) (hsz : 0 < size)
    (v : Value) (n : Nat) (xs : List Value) (h : Row w e size v n xs) (ad : Addr) (m c : Nat) (news : List Value) (hl : news.length = m * size) (hn : ∀ j u, news[j]? = some u → w.cell? (ad.add j) = some u) (h1 : ∀ u ∈ news, u.oneCell' = true)
    (h63 : n + m ≤ maxLen) (hbytes : (n + m) * bytes ≤ 140737488355328) :
    ∃ v' w', (Builtin.append_ #[t, t] ty #[v, .slice (some ad) m c]).run P w = .ok v' w' ∧ PushedRow w e size v (n + m) (xs ++ news) v' w' := by
  obtain ⟨v', w', hr, h2, h3, _⟩ := run_append_own (P := P) w 0 t ty e i z size bytes ht hi hz hsize hby hzs hsz v n xs h ad m c news hl hn h1 h63 hbytes (Nat.zero_le _)
  refine ⟨v', w', hr, ⟨h2, chg_of_grown h3, fun k hk => ?_⟩⟩
  obtain ⟨hxl, ⟨rfl, rfl⟩ | ⟨g, cap, cur, rfl, b1, hg, hnc, b2, hcs, b3⟩⟩ := h
  · have hnil : xs = [] := List.eq_nil_of_length_eq_zero (by simpa using hxl)
    subst hnil
    obtain ⟨v2, w2, hr2, h4, _, _⟩ := run_append_own (P := P) w w.heap.size t ty e i z size bytes ht hi hz hsize hby hzs hsz (.slice none 0 0) 0 [] (World.ownsRow_nil _ _ _ _) ad m c news hl hn h1 h63 hbytes (Nat.le_refl _)
    rw [hr] at hr2
    cases hr2
    exact .inr (World.ownsRow.lt h4 k hk).1
  · by_cases hroom : n + m ≤ cap
    · have hr2 := run_append_room_cells (P := P) w t ty e i ht hi g 0 n cap ad m c news (by rw [hsize]; exact hl) hn h1 hroom
        (fun j hj => by
          have hlt : n * size + j < cur.size := by
            have h5 : n * size + m * size ≤ cap * size := by rw [← Nat.add_mul]; exact Nat.mul_le_mul_right _ hroom
            omega
          rw [cell_of_row w g _ cur _ (0, 0) hg, hsize, Nat.zero_add, Array.getElem?_eq_getElem hlt]; rfl) (fun j hj => frozen_of_row w g _ cur _ hg)
      rw [hr] at hr2
      cases hr2
      exact .inl hk
    · obtain ⟨v2, w2, hr2, h4, _⟩ := run_append_arg_grows (P := P) w t ty e i z size bytes ht hi hz hsize hby hzs hsz ⟨g, 0, none⟩ n cap xs hxl (World.ownsRow.cells (g := g) ⟨hxl, .inr ⟨g, cap, cur, rfl, b1, hg, hnc, b2, hcs, b3⟩⟩ rfl)
        ad m c news hl hn (by omega) h63 hbytes
      rw [hr] at hr2
      cases hr2
      exact .inr (World.ownsRow.lt h4 k hk).1
section
variable {P : Program} {w : World} {o : Oper} {a : Act} {Q : Exit → Act → World → Prop}
theorem wp_pushR {K : Act → World → Prop} (s x : Operand) (t e : TypeId)
    (ho : o.op = .call { callee := .builtin .append, args := #[s, x], argTypes := #[t, t] }) (i : TypeInfo) (z : Value) (size bytes : Nat) (ht : P.underlying t = some (.slice e)) (hi : P.info? e = some i) (hz : i.zero = some z)
    (hsize : i.size = size) (hby : i.bytes = bytes) (hzs : z.cells.size = size) (hsz : 0 < size) (v : Value) (n : Nat) (xs : List Value) (hs : a.eval s = v) (h : Row w e size v n xs)
    (ad : Addr) (m c : Nat) (news : List Value) (hx : a.eval x = .slice (some ad) m c) (hl : news.length = m * size) (hn : ∀ j u, news[j]? = some u → w.cell? (ad.add j) = some u) (h1 : ∀ u ∈ news, u.oneCell' = true)
    (h63 : n + m ≤ maxLen) (hbytes : (n + m) * bytes ≤ 140737488355328)
    (k : ∀ v' w', PushedRow w e size v (n + m) (xs ++ news) v' w' → K (a.put o.dst v') w') : o.wp P a w K Q := by
  obtain ⟨v', w', hr, hp⟩ := push_row (P := P) w t o.type e i z size bytes ht hi hz hsize hby hzs hsz v n xs h ad m c news hl hn h1 h63 hbytes
  unfold Oper.wp execOp
  simp only [ho, resolve, invoke, builtin, Sem.run_bind, Sem.run_pure, Result.andThen_ok, List.map_toArray, List.map_cons, List.map_nil, hs, hx, hr]
  exact k _ _ hp
theorem wpList_pushR {ops : Array Oper} {rest : List Oper} (hgd : o.guard = none) (s x : Operand) (t e : TypeId)
    (ho : o.op = .call { callee := .builtin .append, args := #[s, x], argTypes := #[t, t] }) (i : TypeInfo) (z : Value) (size bytes : Nat) (ht : P.underlying t = some (.slice e)) (hi : P.info? e = some i) (hz : i.zero = some z)
    (hsize : i.size = size) (hby : i.bytes = bytes) (hzs : z.cells.size = size) (hsz : 0 < size) (v : Value) (n : Nat) (xs : List Value) (hs : a.eval s = v) (h : Row w e size v n xs)
    (ad : Addr) (m c : Nat) (news : List Value) (hx : a.eval x = .slice (some ad) m c) (hl : news.length = m * size) (hn : ∀ j u, news[j]? = some u → w.cell? (ad.add j) = some u) (h1 : ∀ u ∈ news, u.oneCell' = true)
    (h63 : n + m ≤ maxLen) (hbytes : (n + m) * bytes ≤ 140737488355328)
    (k : ∀ v' w', PushedRow w e size v (n + m) (xs ++ news) v' w' → wpList P ops Q rest (a.put o.dst v') w') : wpList P ops Q (o :: rest) a w :=
  wpList_plain hgd fun _ hK => wp_pushR s x t e ho i z size bytes ht hi hz hsize hby hzs hsz v n xs hs h ad m c news hx hl hn h1 h63 hbytes fun v' w' hp => hK _ _ (k v' w' hp)
end
end Go.Proofs.YtbnmdieadaeeiaaGreatDoor.Pk

namespace Go.Proofs.YtbnmdieadaeeiaaGreatDoor
open Go Go.RowKit

theorem getN (q : ByteArray) (i : Nat) (hi : i < q.size) : (((q[i]'hi).toNat : Nat) : Int) = (((q.data.toList.getD i 0).toNat : Nat) : Int) := by
  simp [List.getD, hi, ByteArray.getElem_eq_getElem_data]
set_option maxHeartbeats 1600000 in
set_option maxRecDepth 100000 in
theorem r6number_any (q : ByteArray) (w : World) :
    Calls Tryz.prog 24 #[.string q] w fun e w' => e = .returned (.tuple #[.int .i64 ((numE q).1 : Int), .int .i64 (numE q).2]) ∧ Below w.heap.size w w' := by
  have hB : Box (Below w.heap.size w w) := ⟨Below.refl _ _⟩
  have hBd : Box (Below w.heap.size w w.drew) := ⟨Drawn.below ⟨1, rfl⟩⟩
  have hiff := sgOk_iff q
  by_cases c1 : q.size < 291
  · have hq : sgOk q = false := by
      cases h : sgOk q with
      | false => rfl
      | true => obtain ⟨h1, h2, h3⟩ := hiff.1 h; omega
    rw [numE, hq, if_neg (by simp)]
    have i1 : (q.size : Int) < 291 := by omega
    clear hiff hq c1
    go_enter Tryz.func24, Tryz.ntmps24
    go_wp2_with fail
    go_returns
    exact ⟨rfl, hB.out⟩
  have i1 : ¬ (q.size : Int) < 291 := by omega
  have x0 : 0 < q.size := by omega
  have x1 : 1 < q.size := by omega
  have x2 : 2 < q.size := by omega
  have g0 : (((q[0]'x0).toNat : Nat) : Int) = ((sgH q : Nat) : Int) := getN q 0 x0
  have hHl := sgH_lt q
  by_cases c2 : 4 < sgH q
  · have hq : sgOk q = false := by
      cases h : sgOk q with
      | false => rfl
      | true => obtain ⟨h1, h2, h3⟩ := hiff.1 h; omega
    rw [numE, hq, if_neg (by simp)]
    have i2 : 4 < (sgH q : Int) := by omega
    clear hiff hq c1
    go_enter Tryz.func24, Tryz.ntmps24
    go_wp2_with fail
    go_returns
    exact ⟨rfl, hB.out⟩
  have i2 : ¬ 4 < (sgH q : Int) := by omega
  by_cases c3 : ¬ q.size = 291 + 32 * sgH q
  · have hq : sgOk q = false := by
      cases h : sgOk q with
      | false => rfl
      | true => obtain ⟨h1, h2, h3⟩ := hiff.1 h; omega
    rw [numE, hq, if_neg (by simp)]
    have i3 : ¬ ((q.size : Int) = 291 + 32 * (sgH q : Int)) := by omega
    have i4 : ((q.size : Int) != 291 + 32 * (sgH q : Int)) = true := by simp; omega
    clear hiff hq c1
    go_enter Tryz.func24, Tryz.ntmps24
    go_wp2_with fail
    go_returns
    exact ⟨rfl, hB.out⟩
  have i3 : (q.size : Int) = 291 + 32 * (sgH q : Int) := by omega
  have i4 : ((q.size : Int) != 291 + 32 * (sgH q : Int)) = false := by simp; omega
  have g1 := getN q 1 x1
  have g2 := getN q 2 x2
  have hNl := sgN_lt q
  have hN : (((q.data.toList.getD 1 0).toNat : Nat) : Int) * 256 + (((q.data.toList.getD 2 0).toNat : Nat) : Int) = (sgN q : Int) := by unfold sgN; omega
  have b1 := (q.data.toList.getD 1 0).toNat_lt
  have b2 := (q.data.toList.getD 2 0).toNat_lt
  generalize (q.data.toList.getD 1 0).toNat = u1 at g1 hN b1
  generalize (q.data.toList.getD 2 0).toNat = u2 at g2 hN b2
  obtain ⟨H, hH⟩ : ∃ H, sgH q = H := ⟨_, rfl⟩
  obtain ⟨N, hNe⟩ : ∃ N, sgN q = N := ⟨_, rfl⟩
  have hP := pow2_lt H (by omega)
  obtain ⟨P, hPe⟩ : ∃ P, 2 ^ H = P := ⟨_, rfl⟩
  have hp : (2 : Int) ^ H = (P : Int) := by rw [← hPe]; simp
  rw [hPe] at hP
  rw [hH] at g0 i2 i3 i4
  rw [hNe] at hN hNl
  have hE : numE q = if N < P then (N, 0) else (0, 3) := by
    unfold numE
    by_cases h : N < P
    · rw [if_pos h, hiff.2 ⟨by omega, by omega, by rw [hNe, hH, hPe]; exact h⟩, if_pos rfl, hNe]
    · rw [if_neg h, if_neg (fun h1 => by
        obtain ⟨h2, h3, h4⟩ := hiff.1 h1
        rw [hNe, hH, hPe] at h4
        exact h h4)]
  rw [hE]
  have w1 : IntKind.i64.wrap ((u1 : Int) * 256) = (u1 : Int) * 256 := by rw [IntKind.wrap_i64]; omega
  have w2 : IntKind.i64.wrap ((u1 : Int) * 256 + (u2 : Int)) = (N : Int) := by rw [IntKind.wrap_i64]; omega
  have w3 : IntKind.i64.wrap (P : Int) = (P : Int) := by rw [IntKind.wrap_i64]; omega
  have hnot : ∀ (x : Bool) (w : World), (Op.unary .not (.bool x)).run Tryz.prog w = .ok (.bool (!x)) w := fun _ _ => rfl
  clear hiff hE c1 c3 hH hNe hPe i3 hN
  go_enter Tryz.func24, Tryz.ntmps24
  go_wp2_with fail
  refine region_go (C := fun _ => True) rfl ?_
  refine go_calms [0, 1, 2, 3, 4, 5, 6, 7, 8] 0 rfl (by kernel_rfl) (by kernel_rfl) (by kernel_rfl) trivial ?_
  simp [nth]
  try simp only [Act.put]
  repeat (go_big_quiet_step (first | exact fun _ => rfl | rfl))
  refine wpQuiet_nil ?_
  refine go_done (by kernel_rfl) ?_
  go_simp
  by_cases hNP : N < P
  · have hge : ¬ (P : Int) ≤ (N : Int) := by omega
    go_wp2_with fail
    go_returns
    exact ⟨by simp, hBd.out⟩
  · have hge : (P : Int) ≤ (N : Int) := by omega
    go_wp2_with fail
    go_returns
    exact ⟨by simp, hBd.out⟩
set_option maxHeartbeats 1600000 in
set_option maxRecDepth 100000 in
theorem r6id_any (h : Nat) (t : ByteArray) (w : World) (hh : h ≤ 255) (ht : t.size = 32) :
    Calls Tryz.prog 35 #[.int .i64 (h : Int), .string t] w fun e w' => e = .returned (.string (idV h t)) ∧ Below w.heap.size w w' := by
  have h1 : (by1 h).size = 1 := rfl
  have hsz := tag2_len 38 (by1 h) t (by omega) (by omega)
  have hN : ((UInt8.ofNat h).toNat : Int) = (h : Int) := by rw [UInt8.toNat_ofNat']; omega
  have hcv := one_text w (UInt8.ofNat h)
  have hF := rtag_parts 38 (.slice (some ⟨w.heap.size + 1, 0, none⟩) 2 2) [by1 h, t] ((w.alloc (.cells #[Value.int .u8 ((UInt8.ofNat h).toNat : Int)] 5)).alloc (.cells #[.string (by1 h), .string t] 9))
    (by have := parts_new (w.alloc (.cells #[Value.int .u8 ((UInt8.ofNat h).toNat : Int)] 5)) [by1 h, t] 9; rwa [show (w.alloc (.cells #[Value.int .u8 ((UInt8.ofNat h).toNat : Int)] 5)).heap.size = w.heap.size + 1 by simp] at this)
    (by omega) (by simp)
  rw [show hashOf (tagL 38 [by1 h, t]) = idV h t from rfl] at hF
  have hB : Box (Below w.heap.size w ((w.alloc (.cells #[Value.int .u8 ((UInt8.ofNat h).toNat : Int)] 5)).alloc (.cells #[.string (by1 h), .string t] 9))) := ⟨((Below.refl _ _).alloc (Nat.le_refl _) _).alloc (by simp) _⟩
  obtain ⟨y, hy⟩ : ∃ y, idV h t = y := ⟨_, rfl⟩
  rw [hy] at hF ⊢
  rw [show one (UInt8.ofNat h) = by1 h from rfl] at hcv
  obtain ⟨x, hx⟩ : ∃ x, by1 h = x := ⟨_, rfl⟩
  rw [hx] at hF hcv hB
  rw [hN] at hF hcv hB
  clear hsz hy hx h1 hN
  go_enter Tryz.func35, Tryz.ntmps35
  go_wp2_with fail
  refine hF.mono ?_
  rintro e w3 ⟨rfl, hb3⟩
  clear hF
  have hB3 : Box (Below w.heap.size w w3) := ⟨hB.out.trans (hb3.mono (by simp; omega))⟩
  clear hb3
  go_wp2_with fail
  go_ret
  exact ⟨rfl, hB3.out⟩
end Go.Proofs.YtbnmdieadaeeiaaGreatDoor

namespace Go.Proofs.YtbnmdieadaeeiaaGreatDoor
open Go Go.RowKit

set_option maxHeartbeats 1600000 in
set_option maxRecDepth 100000 in
theorem r6verify_no (i t q : ByteArray) (w : World) (hq : sgOk q = false) :
    Calls Tryz.prog 16 #[.string i, .string t, .string q] w fun e w' => e = .returned (.int .i64 3) ∧ Below w.heap.size w w' := by
  have hF := r6number_any q w
  rw [numE, hq, if_neg (by simp)] at hF
  clear hq
  go_enter Tryz.func16, Tryz.ntmps16
  go_wp2_with fail
  refine hF.mono ?_
  clear hF
  rintro e w1 ⟨rfl, hb1⟩
  replace hb1 := Box.mk hb1
  go_wp2_with fail
  go_returns
  exact ⟨rfl, hb1.out⟩
set_option maxHeartbeats 1600000 in
set_option maxRecDepth 100000 in
theorem r6verify_ok (i t q : ByteArray) (w : World) (hq : sgOk q = true) (ht : t.size ≤ 140737488351232) :
    Calls Tryz.prog 16 #[.string i, .string t, .string q] w fun e w' => e = .returned (.int .i64 (if idV (sgH q) (upV (recT (sgN q) t (sgO q)) (sgN q) (sgB q) (sgH q)) = i then 0 else 9)) ∧ Below w.heap.size w w' := by
  have hF := r6number_any q w
  rw [numE, if_pos hq] at hF
  obtain ⟨q1, q2, q3⟩ := (sgOk_iff q).1 hq
  have hp := pow2_lt (sgH q) q1
  have hR := fun w1 => rrecover_ok t (sgO q) (sgN q) w1 (by omega) (sgO_size q hq) ht
  have hO : q.extract 3 291 = sgO q := rfl
  have x0 : 0 < q.size := by omega
  have x1 : 291 ≤ q.size := by omega
  have x2 : (291 : Int) ≤ (q.size : Int) := by omega
  have g0 : (((q[0]'x0).toNat : Nat) : Int) = ((sgH q : Nat) : Int) := getN q 0 x0
  have hcut : ∀ j, j < sgH q → (sgB q).extract (32 * j) (32 * j + 32) = q.extract (291 + 32 * j) (291 + 32 * j + 32) := fun j hj => by
    rw [sgB, ext_ext _ _ _ _ _ (by omega), Nat.add_assoc]
  have hus : ∀ j, (upV (recT (sgN q) t (sgO q)) (sgN q) (sgB q) j).size = 32 := fun j => upV_size _ _ _ (tagS_size _ _) j
  have hu0 : upV (recT (sgN q) t (sgO q)) (sgN q) (sgB q) 0 = recT (sgN q) t (sgO q) := rfl
  have hup : ∀ j, j < sgH q → upV (recT (sgN q) t (sgO q)) (sgN q) (sgB q) (j + 1) = if (sgN q / 2 ^ j) % 2 = 0 then nodeV (upV (recT (sgN q) t (sgO q)) (sgN q) (sgB q) j) (q.extract (291 + 32 * j) (291 + 32 * j + 32)) else nodeV (q.extract (291 + 32 * j) (291 + 32 * j + 32)) (upV (recT (sgN q) t (sgO q)) (sgN q) (sgB q) j) := fun j hj => by
    rw [upV, hcut j hj]
  obtain ⟨U, hU⟩ : ∃ U, upV (recT (sgN q) t (sgO q)) (sgN q) (sgB q) = U := ⟨_, rfl⟩
  have hI := fun w1 => r6id_any (sgH q) (U (sgH q)) w1 (by omega) (by rw [← hU]; exact hus _)
  rw [hU] at hup hus hu0 ⊢
  rw [← hu0] at hR
  rw [hO.symm] at hR
  generalize hHe : sgH q = H at *
  generalize hNe : sgN q = N at *
  have q2' : (q.size : Int) = 291 + 32 * (H : Int) := by omega
  replace hR := Box.mk hR
  replace hI := Box.mk hI
  replace hup := Box.mk hup
  replace hus := Box.mk hus
  replace q2 := Box.mk q2
  replace q2' := Box.mk q2'
  have hB0 : Box (Below w.heap.size w w) := ⟨Below.refl _ _⟩
  obtain ⟨E, hE⟩ : ∃ E, (if idV H (U H) = i then (0 : Int) else 9) = E := ⟨_, rfl⟩
  rw [hE]
  replace hE := Box.mk hE
  clear hq ht hcut hu0 hU hO hHe hNe q3
  go_enter Tryz.func16, Tryz.ntmps16
  go_wp2_with fail
  refine hF.mono ?_
  clear hF
  rintro e w1 ⟨rfl, hb1⟩
  have hF := hR.out w1
  replace hb1 := Box.mk hb1
  go_wp2_with fail
  refine hF.mono ?_
  clear hF hR
  rintro e w2 ⟨rfl, hb2⟩
  have hB2 : Box (Below w.heap.size w w2) := ⟨mono_bel hb1.out hb2 (Nat.le_refl _)⟩
  clear hb1 hb2 hB0
  go_wp2_with fail
  go_loopw [9, 11] (fun v9 v11 wr => ∃ j : Nat, j ≤ H ∧ v9 = .string (U j) ∧ v11 = .int .i64 (j : Int) ∧ Box (Below w.heap.size w wr)) (fun _ v11 _ => H - (intOf v11).toNat)
  case atStart => exact ⟨0, by omega, rfl, rfl, hB2⟩
  case round =>
    clear hB2
    obtain ⟨j, hj, rfl, rfl, hB⟩ := hrel
    by_cases hlt : j < H
    · have e1 : (291 + 32 * (j : Int)).toNat = 291 + 32 * j := by omega
      have e2 : (323 + 32 * (j : Int)).toNat = 291 + 32 * j + 32 := by omega
      have e3 : 323 + 32 * (j : Int) ≤ (q.size : Int) := by rw [q2'.out]; omega
      have hus1 := hus.out j
      have hup1 := hup.out j hlt
      have hxs : (q.extract (291 + 32 * j) (291 + 32 * j + 32)).size = 32 := by rw [ByteArray.size_extract]; have := q2.out; omega
      obtain ⟨x, hx⟩ : ∃ x, q.extract (291 + 32 * j) (291 + 32 * j + 32) = x := ⟨_, rfl⟩
      rw [hx] at hup1 hxs
      obtain ⟨u, hu⟩ : ∃ u, U j = u := ⟨_, rfl⟩
      rw [hu] at hup1 hus1 ⊢
      obtain ⟨m, hm⟩ : ∃ m, N / 2 ^ j = m := ⟨_, rfl⟩
      rw [hm] at hup1
      have hT1 := fun w1 : World => rtag_parts 37 (.slice (some ⟨w1.heap.size, 0, none⟩) 2 2) [u, x] (w1.alloc (.cells #[.string u, .string x] 9)) (parts_new w1 [u, x] 9) (by have := tag2_len 37 u x (by omega) (by omega); omega) (by simp)
      have hT2 := fun w1 : World => rtag_parts 37 (.slice (some ⟨w1.heap.size, 0, none⟩) 2 2) [x, u] (w1.alloc (.cells #[.string x, .string u] 9)) (parts_new w1 [x, u] 9) (by have := tag2_len 37 x u (by omega) (by omega); omega) (by simp)
      have hdv : (N : Int) / 2 ^ j = (m : Int) := by rw [← hm]; simp
      by_cases h2 : m % 2 = 0
      · have hrm : (m : Int).tmod 2 = 0 := by rw [Int.tmod_eq_emod_of_nonneg (by omega)]; omega
        rw [if_pos h2] at hup1
        replace hup1 := Box.mk hup1
        go_wp2_with fail
        refine (hT1 wr).mono ?_
        rintro e w3 ⟨rfl, hb3⟩
        have hB3 : Box (Below w.heap.size w w3) := ⟨(hB.out.alloc hB.out.size _).trans (hb3.mono (by have := hB.out.size; simp; omega))⟩
        clear hT1 hT2 hb3 hB
        go_wp2_with fail
        exact ⟨⟨j + 1, by omega, by rw [hup1.out]; rfl, by go_num, hB3⟩, by simp [intOf]; omega⟩
      · have hrm : (m : Int).tmod 2 = 1 := by rw [Int.tmod_eq_emod_of_nonneg (by omega)]; omega
        rw [if_neg h2] at hup1
        replace hup1 := Box.mk hup1
        go_wp2_with fail
        refine (hT2 wr).mono ?_
        rintro e w3 ⟨rfl, hb3⟩
        have hB3 : Box (Below w.heap.size w w3) := ⟨(hB.out.alloc hB.out.size _).trans (hb3.mono (by have := hB.out.size; simp; omega))⟩
        clear hT1 hT2 hb3 hB
        go_wp2_with fail
        exact ⟨⟨j + 1, by omega, by rw [hup1.out]; rfl, by go_num, hB3⟩, by simp [intOf]; omega⟩
    · obtain rfl : j = H := by omega
      have hF := hI.out wr
      obtain ⟨y, hy⟩ : ∃ y, idV j (U j) = y := ⟨_, rfl⟩
      rw [hy] at hF
      replace hy := Box.mk hy
      go_wp2_with fail
      refine hF.mono ?_
      rintro e w3 ⟨rfl, hb3⟩
      have hB3 : Box (Below w.heap.size w w3) := ⟨mono_bel hB.out hb3 (Nat.le_refl _)⟩
      clear hF hb3 hB
      by_cases he : y = i
      · subst he
        go_wp2_with fail
        go_returns
        exact ⟨by rw [← hE.out, hy.out]; simp, hB3.out⟩
      · have he2 := txt_ne he
        have he3 : (y.toList == i.toList) = false := by simp [he2]
        go_wp2_with fail
        go_returns
        exact ⟨by rw [← hE.out, hy.out]; simp [he], hB3.out⟩
theorem r6verify_any (i t q : ByteArray) (w : World) (ht : t.size ≤ 140737488351232) :
    Calls Tryz.prog 16 #[.string i, .string t, .string q] w fun e w' => e = .returned (.int .i64 (verE i t q)) ∧ Below w.heap.size w w' := by
  unfold verE
  cases hq : sgOk q with
  | true => simpa using r6verify_ok i t q w hq ht
  | false => simpa using r6verify_no i t q w hq
end Go.Proofs.YtbnmdieadaeeiaaGreatDoor

namespace Go.Proofs.YtbnmdieadaeeiaaGreatDoor
open Go Go.RowKit

/-- The first n nodes of a height. -/
def tx (s : ByteArray) (j n : Nat) : List Value := (List.range n).map fun i => Value.string (lvl s j i)
theorem tx_length (s : ByteArray) (j n : Nat) : (tx s j n).length = n := by simp [tx]
theorem tx_get (s : ByteArray) (j n i : Nat) (hi : i < n) : (tx s j n)[i]? = some (.string (lvl s j i)) := by simp [tx, hi]
theorem tx_succ (s : ByteArray) (j n : Nat) : tx s j (n + 1) = tx s j n ++ [.string (lvl s j n)] := by simp [tx, List.range_succ]
def lvs (lv : Nat → Value) (n : Nat) : List Value := (List.range n).map lv
theorem lvs_get (lv : Nat → Value) (n i : Nat) (hi : i < n) : (lvs lv n)[i]? = some (lv i) := by simp [lvs, hi]
theorem lvs_succ (lv : Nat → Value) (n : Nat) : lvs lv (n + 1) = lvs lv n ++ [lv n] := by simp [lvs, List.range_succ]
theorem lvs_congr {lv lu : Nat → Value} {n : Nat} (h : ∀ i, i < n → lv i = lu i) : lvs lv n = lvs lu n := by
  unfold lvs
  apply List.map_congr_left
  intro i hi
  exact h i (by simpa using hi)
theorem info_ss : (Tryz.prog.info? 52).map (fun i => (i.zero, i.size, i.bytes)) = some (some (.slice none 0 0), 1, 24) := by kernel_rfl
def qcells (s : ByteArray) (h : Nat) (v : Value) (u : Nat) : List Value := [.string s, .int .i64 (h : Int), v, .int .i64 (u : Int)]
/-- The document's key with the heights 0 to j of its tree: its block, the row of rows, each row. -/
structure QPart (w : World) (b : Nat) (s : ByteArray) (h u : Nat) (bl cl : Nat) (lv : Nat → Value) (j : Nat) : Prop where
  blk : Blk w b (qcells s h (.slice (some ⟨bl, 0, none⟩) (j + 1) cl) u) 41
  row : Pk.Row w 52 1 (.slice (some ⟨bl, 0, none⟩) (j + 1) cl) (j + 1) (lvs lv (j + 1))
  lev : ∀ i, i ≤ j → ∃ g c, lv i = .slice (some ⟨g, 0, none⟩) (2 ^ (h - i)) c ∧ Pk.Row w 9 1 (.slice (some ⟨g, 0, none⟩) (2 ^ (h - i)) c) (2 ^ (h - i)) (tx s i (2 ^ (h - i)))
/-- A block's element type in a world. -/
def Ty (w : World) (b : Nat) (t : TypeId) : Prop := ∃ cs, w.heap[b]? = some (.cells cs t)
theorem Ty.inj {w : World} {b : Nat} {t u : TypeId} (h : Ty w b t) (k : Ty w b u) : t = u := by
  obtain ⟨cs, h⟩ := h
  obtain ⟨ds, k⟩ := k
  rw [h] at k
  cases k; rfl
theorem Blk.ty {w : World} {b : Nat} {cs : List Value} {t : TypeId} (h : Blk w b cs t) : Ty w b t := ⟨_, h⟩
theorem Row_ty {w : World} {e : TypeId} {size n c g : Nat} {xs : List Value} (h : Pk.Row w e size (.slice (some ⟨g, 0, none⟩) n c) n xs) : Ty w g e := by
  obtain ⟨_, ⟨h0, _⟩ | ⟨g2, cap, cur, h0, _, hg, _⟩⟩ := h
  · cases h0
  · cases h0
    exact ⟨_, hg⟩
theorem Ty.lt {w : World} {b : Nat} {t : TypeId} (h : Ty w b t) : b < w.heap.size := by
  obtain ⟨cs, h⟩ := h
  exact (Array.getElem?_eq_some_iff.1 h).1
/-- What changes none of the three kinds of blocks keeps the key. -/
theorem QPart.keep {S : Nat → Prop} {w w' : World} {b : Nat} {s : ByteArray} {h u bl cl j : Nat} {lv : Nat → Value} (q : QPart w b s h u bl cl lv j) (hc : Pk.Chg S w w')
    (hS : ∀ i t, i < w.heap.size → S i → Ty w i t → t ≠ 41 ∧ t ≠ 52 ∧ t ≠ 9) : QPart w' b s h u bl cl lv j := by
  refine ⟨hc.blk q.blk fun e => (hS b _ q.blk.lt e q.blk.ty).1 rfl, q.row.chg hc fun k hk e => ?_, fun i hi => ?_⟩
  · obtain rfl : bl = k := by simpa [Value.ownBlock] using hk
    exact (hS bl _ (Row_ty q.row).lt e (Row_ty q.row)).2.1 rfl
  · obtain ⟨g, c, e1, hr⟩ := q.lev i hi
    refine ⟨g, c, e1, hr.chg hc fun k hk e => ?_⟩
    obtain rfl : g = k := by simpa [Value.ownBlock] using hk
    exact (hS g _ (Row_ty hr).lt e (Row_ty hr)).2.2 rfl
theorem QPart.here {w w' : World} {b : Nat} {s : ByteArray} {h u bl cl j : Nat} {lv : Nat → Value} (q : QPart w b s h u bl cl lv j) (hb : Below w.heap.size w w') : QPart w' b s h u bl cl lv j :=
  q.keep (S := fun _ => False) (chg0 hb) (fun _ _ _ hf _ => hf.elim)
theorem one_new (w : World) (x : Value) (e : TypeId) : ∀ j u, [x][j]? = some u → (w.alloc (.cells #[x] e)).cell? ((⟨w.heap.size, 0, none⟩ : Addr).add j) = some u := fun j u hj => by
  have hadd : (⟨w.heap.size, 0, none⟩ : Addr).add j = ⟨w.heap.size, j, none⟩ := by unfold Addr.add; split <;> simp_all
  rw [hadd, ← hj]
  exact (Blk.new w [x] e).cell j
theorem QPart.bl_ne {w : World} {b : Nat} {s : ByteArray} {h u bl cl j : Nat} {lv : Nat → Value} (q : QPart w b s h u bl cl lv j) : bl ≠ b := fun e => by
  have tb := q.blk.ty
  rw [← e] at tb
  exact absurd (tb.inj (Row_ty q.row)) (by decide)
theorem QPart.told {w w' : World} {b : Nat} {s : ByteArray} {h u bl cl j : Nat} {lv : Nat → Value} {v' : Value} {n : Nat} {xs : List Value} (_ : QPart w b s h u bl cl lv j) (hp : Pk.PushedRow w 52 1 (.slice (some ⟨bl, 0, none⟩) (j + 1) cl) n xs v' w') :
    Pk.PushedRow w 52 1 (.slice (some ⟨bl, 0, none⟩) (j + 1) cl) n xs v' w' := hp
set_option maxHeartbeats 400000 in
theorem r6new_no (s : ByteArray) (n : Int) (w : World) (hn : n < 0 ∨ 4 < n) :
    Calls Tryz.prog 11 #[.string s, .int .i64 n] w fun e w' => e = .returned (.tuple #[.pointer none, .int .i64 1]) ∧ w' = w := by
  rcases hn with hn | hn
  · go_enter Tryz.func11, Tryz.ntmps11
    go_wp2_with fail
    go_returns
    exact ⟨rfl, rfl⟩
  · have h0 : ¬ n < 0 := by omega
    go_enter Tryz.func11, Tryz.ntmps11
    go_wp2_with fail
    go_returns
    exact ⟨rfl, rfl⟩
/-- The row of the lowest height while it is laid. -/
structure LowAt (w0 w : World) (s : ByteArray) (h n : Nat) (v : Value) : Prop where
  row : Pk.Row w 9 1 v n (tx s 0 n)
  own : ∀ k, v.ownBlock = some k → w0.heap.size < k
  blk : Blk w w0.heap.size (qcells s h (.slice none 0 0) 0) 41
  bel : Below w0.heap.size w0 w
theorem LowAt.push {w0 wr w2 w3 w4 : World} {s x : ByteArray} {h n : Nat} {v vo : Value} (hL : LowAt w0 wr s h n v) (hb2 : Below wr.heap.size wr w2) (hb3 : Below w2.heap.size w2 w3) (hx : pubT s n = x)
    (hp : Pk.PushedRow w3 9 1 v (n + 1) (tx s 0 n ++ [.string x]) vo w4) : LowAt w0 w4 s h (n + 1) vo := by
  have hb : Below wr.heap.size wr w3 := mono_bel hb2 hb3 (Nat.le_refl _)
  have hsz := hL.bel.size
  have hsz3 := hb.size
  have hl := hL.blk.lt
  refine ⟨?_, fun k hk => ?_, hp.chg.blk (hL.blk.below hb hl) fun e => ?_, (mono_bel hL.bel hb (Nat.le_refl _)).trans (hp.chg.below (by omega) fun i hi => ?_)⟩
  · rw [tx_succ, show lvl s 0 n = pubT s n from rfl, hx]
    exact hp.row
  · rcases hp.place k hk with h1 | h1
    · exact hL.own k h1
    · omega
  · have := hL.own _ e
    omega
  · have := hL.own _ hi
    omega
theorem nil_pushed {w2 w3 : World} {e : TypeId} {size n : Nat} {xs : List Value} {v : Value} (hp : Pk.PushedRow w2 e size (.slice none 0 0) n xs v w3) : Pk.Chg (fun _ => False) w2 w3 := hp.chg.mono fun i _ e => by cases e
/-- The first row of rows. -/
theorem QPart.start {w0 wr w2 w3 : World} {s : ByteArray} {h g c bl cl m : Nat} (hm : 2 ^ h = m) (hL : LowAt w0 wr s h m (.slice (some ⟨g, 0, none⟩) m c)) (hb : Below wr.heap.size wr w2)
    (hp : Pk.PushedRow w2 52 1 (.slice none 0 0) 1 [.slice (some ⟨g, 0, none⟩) m c] (.slice (some ⟨bl, 0, none⟩) 1 cl) w3) :
    QPart (w3.setCell ⟨w0.heap.size, 2, none⟩ (.slice (some ⟨bl, 0, none⟩) 1 cl)) w0.heap.size s h 0 bl cl (fun _ => .slice (some ⟨g, 0, none⟩) m c) 0 ∧ w0.heap.size < bl ∧ Below w0.heap.size w0 (w3.setCell ⟨w0.heap.size, 2, none⟩ (.slice (some ⟨bl, 0, none⟩) 1 cl)) := by
  subst hm
  have hg := hL.own g rfl
  have hl := hL.blk.lt
  have hsz := hb.size
  have hbl : w2.heap.size ≤ bl := by
    rcases hp.place bl rfl with h1 | h1
    · cases h1
    · exact h1
  have hc2 := nil_pushed hp
  have hc : Pk.Chg (fun _ => False) wr w3 := (chg0 hb).trans hc2 fun _ _ h => h
  have hK := (hc.blk hL.blk (fun h => h)).setCell 2 (.slice (some ⟨bl, 0, none⟩) 1 cl)
  have hlow : Below w0.heap.size w0 w3 := hL.bel.trans ((hc.below (Nat.le_refl _) (fun _ h => h.elim)).mono hL.bel.size)
  refine ⟨⟨hK, ?_, fun i hi => ?_⟩, by omega, hlow.setCell (by simp) _⟩
  · refine (show Pk.Row w3 _ 1 _ _ _ from hp.row).kept fun k hk => ?_
    obtain rfl : bl = k := by simpa [Value.ownBlock] using hk
    exact Below.heap_setCell _ _ _ _ (by simp; omega)
  · obtain rfl : i = 0 := by omega
    refine ⟨g, c, rfl, ?_⟩
    refine (hL.row.chg hc (fun _ _ h => h)).kept fun k hk => ?_
    obtain rfl : g = k := by simpa [Value.ownBlock] using hk
    exact Below.heap_setCell _ _ _ _ (by simp; omega)
/-- One row more. -/
theorem QPart.push {w w2 w3 : World} {b : Nat} {s : ByteArray} {h u bl cl j g c bl' cl' m : Nat} {lv : Nat → Value} (hm : 2 ^ (h - (j + 1)) = m) (q : QPart w b s h u bl cl lv j)
    (hr : Pk.Row w 9 1 (.slice (some ⟨g, 0, none⟩) m c) m (tx s (j + 1) m)) (hb : Below w.heap.size w w2)
    (hp : Pk.PushedRow w2 52 1 (.slice (some ⟨bl, 0, none⟩) (j + 1) cl) (j + 1 + 1) (lvs lv (j + 1) ++ [.slice (some ⟨g, 0, none⟩) m c]) (.slice (some ⟨bl', 0, none⟩) (j + 1 + 1) cl') w3) :
    QPart (w3.setCell ⟨b, 2, none⟩ (.slice (some ⟨bl', 0, none⟩) (j + 1 + 1) cl')) b s h u bl' cl' (fun i => if i ≤ j then lv i else .slice (some ⟨g, 0, none⟩) m c) (j + 1) ∧ (bl' = bl ∨ w.heap.size ≤ bl') ∧
    Pk.Chg (fun i => i = b ∨ i = bl) w (w3.setCell ⟨b, 2, none⟩ (.slice (some ⟨bl', 0, none⟩) (j + 1 + 1) cl')) := by
  subst hm
  have hplace : bl' = bl ∨ w2.heap.size ≤ bl' := by
    rcases hp.place bl' rfl with h1 | h1
    · exact .inl (by simpa [Value.ownBlock] using h1.symm)
    · exact .inr h1
  have tb := q.blk.ty
  have tl := Row_ty q.row
  have hne : b ≠ bl := fun e => by subst e; exact absurd (tb.inj tl) (by decide)
  have hsz := hb.size
  have hc2 : Pk.Chg (fun i => i = bl) w2 w3 := hp.chg.mono fun i _ e => by simpa [Value.ownBlock] using e.symm
  have hc : Pk.Chg (fun i => i = bl) w w3 := (chg0 hb).trans hc2 fun _ _ h => h
  have hK := (hc.blk q.blk hne).setCell 2 (.slice (some ⟨bl', 0, none⟩) (j + 1 + 1) cl')
  have hlt := q.blk.lt
  have hne2 : bl' ≠ b := by rcases hplace with h1 | h1 <;> omega
  have hstr : ∀ n c m xs, Pk.Row w 9 1 (.slice (some ⟨m, 0, none⟩) n c) n xs → Pk.Row (w3.setCell ⟨b, 2, none⟩ (.slice (some ⟨bl', 0, none⟩) (j + 1 + 1) cl')) 9 1 (.slice (some ⟨m, 0, none⟩) n c) n xs := fun n c m xs hx => by
    have tx := Row_ty hx
    refine (hx.chg hc fun k hk e => ?_).kept fun k hk => ?_
    · obtain rfl : m = k := by simpa [Value.ownBlock] using hk
      subst e
      exact absurd (tl.inj tx) (by decide)
    · obtain rfl : m = k := by simpa [Value.ownBlock] using hk
      refine Below.heap_setCell _ _ _ _ (fun e => ?_)
      obtain rfl : m = b := e
      exact absurd (tb.inj tx) (by decide)
  refine ⟨⟨hK, ?_, fun i hi => ?_⟩, by omega, (hc.mono fun i _ h => .inr h).setCell (.inl rfl) _⟩
  · have h1 : lvs (fun i => if i ≤ j then lv i else .slice (some ⟨g, 0, none⟩) (2 ^ (h - (j + 1))) c) (j + 1 + 1) = lvs lv (j + 1) ++ [.slice (some ⟨g, 0, none⟩) (2 ^ (h - (j + 1))) c] := by
      rw [lvs_succ, if_neg (by omega)]
      congr 1
      exact lvs_congr fun i hi => if_pos (by omega)
    rw [h1]
    refine hp.row.kept fun k hk => ?_
    obtain rfl : bl' = k := by simpa [Value.ownBlock] using hk
    exact Below.heap_setCell _ _ _ _ (by simpa using hne2)
  · by_cases hij : i ≤ j
    · obtain ⟨g1, c1, e1, h1⟩ := q.lev i hij
      exact ⟨g1, c1, by rw [if_pos hij]; exact e1, hstr _ _ _ _ h1⟩
    · obtain rfl : i = j + 1 := by omega
      exact ⟨g, c, by rw [if_neg hij], hstr _ _ _ _ hr⟩
/-- The row of a further height while it is laid. -/
structure UpAt (wb w : World) (s : ByteArray) (j n : Nat) (v : Value) : Prop where
  row : Pk.Row w 9 1 v n (tx s j n)
  own : ∀ k, v.ownBlock = some k → wb.heap.size ≤ k
  bel : Below wb.heap.size wb w
theorem UpAt.push {wb wr w3 w4 : World} {s x : ByteArray} {j n : Nat} {v vo : Value} (hL : UpAt wb wr s j n v) (hb : Below wr.heap.size wr w3) (hx : lvl s j n = x)
    (hp : Pk.PushedRow w3 9 1 v (n + 1) (tx s j n ++ [.string x]) vo w4) : UpAt wb w4 s j (n + 1) vo := by
  have hsz := hL.bel.size
  have hsz3 := hb.size
  refine ⟨?_, fun k hk => ?_, (mono_bel hL.bel hb (Nat.le_refl _)).trans (hp.chg.below (by omega) fun i hi => ?_)⟩
  · rw [tx_succ, hx]
    exact hp.row
  · rcases hp.place k hk with h1 | h1
    · exact hL.own k h1
    · omega
  · exact hL.own _ hi
set_option maxHeartbeats 3200000 in
set_option maxRecDepth 100000 in
theorem r6new_ok (s : ByteArray) (h : Nat) (w : World) (hh : h ≤ 4) (hs : s.size ≤ 140737488351232) :
    Calls Tryz.prog 11 #[.string s, .int .i64 (h : Int)] w fun e w' => e = .returned (.tuple #[.pointer (some ⟨w.heap.size, 0, none⟩), .int .i64 0]) ∧ (∃ bl cl lv, QPart w' w.heap.size s h 0 bl cl lv h) ∧ Below w.heap.size w w' := by
  have hP := fun n w1 (hn : n < 65536) => rpublic_ok s n w1 hn hs
  have h0 : ¬ (h : Int) < 0 := by omega
  have h1 : ¬ 4 < (h : Int) := by omega
  obtain ⟨P, hPe⟩ : ∃ P, 2 ^ h = P := ⟨_, rfl⟩
  have hp : (2 : Int) ^ h = (P : Int) := by rw [← hPe]; simp
  have hP16 : P ≤ 16 := by rw [← hPe]; exact pow_le h hh
  have hP1 : 1 ≤ P := by rw [← hPe]; exact Nat.one_le_two_pow
  have hwr : IntKind.i64.wrap (P : Int) = (P : Int) := by rw [IntKind.wrap_i64]; omega
  obtain ⟨iT, hiT, hzT, hsT, hbT⟩ := info_parts info_s
  obtain ⟨iS, hiS, hzS, hsS, hbS⟩ := info_parts info_ss
  have hT := Box.mk (And.intro hiT (And.intro hzT (And.intro hsT hbT)))
  have hS := Box.mk (And.intro hiS (And.intro hzS (And.intro hsS hbS)))
  obtain ⟨w1, hw1⟩ : ∃ w1, w.alloc (.cells #[.string s, .int .i64 (h : Int), .slice none 0 0, .int .i64 0] 41) = w1 := ⟨_, rfl⟩
  have hL0 : LowAt w w1 s h 0 (.slice none 0 0) := by
    refine ⟨Pk.Row.nil _ _ _, (fun k hk => by cases hk), ?_, ?_⟩
    · rw [← hw1]; exact Blk.new w (qcells s h (.slice none 0 0) 0) _
    · rw [← hw1]; exact (Below.refl _ _).alloc (Nat.le_refl _) _
  replace hL0 := Box.mk hL0
  replace hP := Box.mk hP
  replace hPe := Box.mk hPe
  clear hiT hzT hsT hbT hiS hzS hsS hbS hs
  go_enter Tryz.func11, Tryz.ntmps11
  go_wp2_with fail
  replace hw1 := Box.mk hw1
  go_loopw [7, 8] (fun v q wr => ∃ n : Nat, n ≤ P ∧ q = .int .i64 (n : Int) ∧ Box (LowAt w wr s h n v)) (fun _ q _ => P - (intOf q).toNat)
  case atStart => exact ⟨0, by omega, rfl, hL0⟩
  case round =>
    clear hL0
    obtain ⟨n, hn, rfl, hL⟩ := hrel
    by_cases hlt : n < P
    · have hF := hP.out n wr (by omega)
      obtain ⟨x, hx⟩ : ∃ x, pubT s n = x := ⟨_, rfl⟩
      rw [hx] at hF
      replace hx := Box.mk hx
      go_wp2_with fail
      refine hF.mono ?_
      clear hF
      rintro e w2 ⟨rfl, hb2⟩
      have hR2 := hL.out.row.chg (chg0 (S := fun _ => False) hb2) (fun _ _ h => h)
      replace hb2 := Box.mk hb2
      obtain ⟨w3, hw3⟩ : ∃ w3, w2.alloc (.cells #[.string x] 9) = w3 := ⟨_, rfl⟩
      have hb3 : Below w2.heap.size w2 w3 := by rw [← hw3]; exact (Below.refl _ _).alloc (Nat.le_refl _) _
      have hR3 := Box.mk (hR2.chg (chg0 (S := fun _ => False) hb3) (fun _ _ h => h))
      have hc3 := Box.mk (one_new w2 (.string x) 9)
      rw [hw3] at hc3
      have ho3 : Box (∀ u ∈ [Value.string x], u.oneCell' = true) := ⟨by simp [Value.oneCell']⟩
      have hlen : Box (n + 1 ≤ maxLen ∧ (n + 1) * 16 ≤ 140737488355328) := ⟨by unfold maxLen; omega, by omega⟩
      replace hb3 := Box.mk hb3
      clear hR2
      go_wp2_with (refine Pk.wpList_pushR rfl (.tmp 36) (.tmp 38) 52 9 rfl iT (.string ⟨#[]⟩) 1 16 Tryz.underlying52 hT.out.1 hT.out.2.1 hT.out.2.2.1 hT.out.2.2.2 rfl (by omega) _ n (tx s 0 n) rfl hR3.out ⟨w2.heap.size, 0, none⟩ 1 1 [.string x] rfl rfl hc3.out ho3.out hlen.out.1 hlen.out.2 ?_; intro vo w4 hpush)
      have hN := hL.out.push hb2.out hb3.out hx.out hpush
      exact ⟨⟨n + 1, by omega, by go_num, ⟨hN⟩⟩, by simp [intOf]; omega⟩
    · obtain rfl : n = P := by omega
      clear hP
      have hLr := hL.out.row
      obtain ⟨g, c, rfl, hgl⟩ := hLr.some hP1
      have c2 : wr.cell? ⟨w.heap.size, 2, none⟩ = some (.slice none 0 0) := hL.out.blk.cell 2
      obtain ⟨w2, hw2⟩ : ∃ w2, wr.alloc (.cells #[.slice (some ⟨g, 0, none⟩) n c] 52) = w2 := ⟨_, rfl⟩
      have hb2 : Below wr.heap.size wr w2 := by rw [← hw2]; exact (Below.refl _ _).alloc (Nat.le_refl _) _
      have hc3 := Box.mk (one_new wr (.slice (some ⟨g, 0, none⟩) n c) 52)
      rw [hw2] at hc3
      have ho3 : Box (∀ u ∈ [Value.slice (some ⟨g, 0, none⟩) n c], u.oneCell' = true) := ⟨by simp [Value.oneCell']⟩
      have hK2 := Box.mk (hL.out.blk.below hb2 hL.out.blk.lt)
      have hn0 : Box (Pk.Row w2 52 1 (.slice none 0 0) 0 []) := ⟨Pk.Row.nil _ _ _⟩
      replace hb2 := Box.mk hb2
      clear hgl hLr
      go_wp2_with (refine Pk.wpList_pushR rfl (.tmp 44) (.tmp 46) 39 52 rfl iS (.slice none 0 0) 1 24 Tryz.underlying39 hS.out.1 hS.out.2.1 hS.out.2.2.1 hS.out.2.2.2 rfl (by omega) _ 0 [] rfl hn0.out ⟨wr.heap.size, 0, none⟩ 1 1 [.slice (some ⟨g, 0, none⟩) n c] rfl rfl hc3.out ho3.out (by decide) (by decide) ?_; intro vo w3 hpush; obtain ⟨bl, cl, rfl, hbl⟩ := hpush.row.some (Nat.succ_pos 0); have hK3 := Box.mk ((nil_pushed hpush).blk hK2.out (fun h => h)); have c3 : w3.cell? ⟨w.heap.size, 2, none⟩ = some (.slice none 0 0) := hK3.out.cell 2; have f3 := hK3.out.free 2; clear hbl)
      obtain ⟨k4, hbl4, hB4⟩ := QPart.start hPe.out hL.out hb2.out hpush
      obtain ⟨w4, hw4⟩ : ∃ w4, w3.setCell ⟨w.heap.size, 2, none⟩ (.slice (some ⟨bl, 0, none⟩) 1 cl) = w4 := ⟨_, rfl⟩
      rw [hw4] at k4 hB4 ⊢
      replace k4 := Box.mk k4
      replace hbl4 := Box.mk hbl4
      replace hB4 := Box.mk hB4
      clear hpush hw4 hK3 c3 f3 hn0 hK2 ho3 hc3 hw2 hb2 c2 hL hp hwr hPe hP16 hP1 hn hlt hw1
      go_loopw [7, 11] (fun v q wr => ∃ (j bl cl : Nat) (lv : Nat → Value), j ≤ h ∧ v = lv j ∧ q = .int .i64 (j : Int) ∧ Box (QPart wr w.heap.size s h 0 bl cl lv j) ∧ Box (w.heap.size < bl) ∧ Box (Below w.heap.size w wr)) (fun _ q _ => h - (intOf q).toNat)
      case atStart => exact ⟨0, bl, cl, _, by omega, rfl, rfl, k4, hbl4, hB4⟩
      case round =>
        clear k4 hbl4 hB4
        obtain ⟨j, bl, cl, lv, hj, rfl, rfl, hQ, hbl, hB⟩ := hrel
        obtain ⟨wb, rfl⟩ : ∃ wb, wb = wr := ⟨wr, rfl⟩
        by_cases hlt : j < h
        · obtain ⟨q, hq⟩ : ∃ q, 2 ^ (h - (j + 1)) = q := ⟨_, rfl⟩
          have hq2 : 2 ^ (h - j) = 2 * q := by rw [← hq, ← Nat.pow_succ']; congr 1; omega
          have hq16 : q ≤ 16 := by rw [← hq]; exact pow_le _ (by omega)
          have hq1 : 1 ≤ q := by rw [← hq]; exact Nat.one_le_two_pow
          obtain ⟨g, c, hlv, hrow⟩ := hQ.out.lev j (Nat.le_refl _)
          rw [hq2] at hlv hrow
          rw [hlv]
          have hU0 : Box (UpAt wb wb s (j + 1) 0 (.slice none 0 0)) := ⟨Pk.Row.nil _ _ _, (fun k hk => by cases hk), Below.refl _ _⟩
          replace hq := Box.mk hq
          replace hq2 := Box.mk hq2
          replace hlv := Box.mk hlv
          replace hrow := Box.mk hrow
          go_wp2_with fail
          go_loopw [12, 13] (fun v q' wr => ∃ m : Nat, m ≤ q ∧ q' = .int .i64 (2 * (m : Int)) ∧ Box (UpAt wb wr s (j + 1) m v)) (fun _ q' _ => 2 * q - (intOf q').toNat)
          case atStart => exact ⟨0, by omega, rfl, hU0⟩
          case round =>
            clear hU0
            obtain ⟨m, hm, rfl, hU⟩ := hrel
            by_cases hmq : m < q
            · have hrow2 := hrow.out.chg (chg0 (S := fun _ => False) hU.out.bel) (fun _ _ h => h)
              have hsx := lvl_size s j (2 * m)
              have hsy := lvl_size s j (2 * m + 1)
              have c1 := hrow2.cells (2 * m) _ (tx_get s j (2 * q) (2 * m) (by omega))
              have c2 := hrow2.cells (2 * m + 1) _ (tx_get s j (2 * q) (2 * m + 1) (by omega))
              have hz : lvl s (j + 1) m = hashOf (tagL 37 [lvl s j (2 * m), lvl s j (2 * m + 1)]) := rfl
              obtain ⟨x, hx⟩ : ∃ x, lvl s j (2 * m) = x := ⟨_, rfl⟩
              obtain ⟨y, hy⟩ : ∃ y, lvl s j (2 * m + 1) = y := ⟨_, rfl⟩
              rw [hx] at hsx c1 hz
              rw [hy] at hsy c2 hz
              obtain ⟨z, hze⟩ : ∃ z, hashOf (tagL 37 [x, y]) = z := ⟨_, rfl⟩
              obtain ⟨wA, hwA⟩ : ∃ wA, (wr.alloc (.cells #[.string x, .string y] 9)).drew = wA := ⟨_, rfl⟩
              have hbA : Below wr.heap.size wr wA := by rw [← hwA]; exact (dB wr).alloc (Nat.le_refl _) (.cells #[.string x, .string y] 9)
              have hF := rtag_parts 37 (.slice (some ⟨wr.heap.size, 0, none⟩) 2 2) [x, y] wA (by rw [← hwA]; exact parts_new wr.drew [x, y] 9) (by have := tag2_len 37 x y (by omega) (by omega); omega) (by simp)
              rw [hze] at hz hF
              have hrA := hrow2.chg (chg0 (S := fun _ => False) hbA) (fun _ _ h => h)
              have cA : wA.cell? ⟨g, 2 * m, none⟩ = some (.string x) ∧ wA.cell? ⟨g, 2 * m + 1, none⟩ = some (.string y) := ⟨by rw [← c1]; exact hbA.cell (p := ⟨g, 2 * m, none⟩) (by have := (Row_ty hrow2).lt; exact this), by rw [← c2]; exact hbA.cell (p := ⟨g, 2 * m + 1, none⟩) (by have := (Row_ty hrow2).lt; exact this)⟩
              have tyA := (Row_ty hrA).lt
              have hgb := (Row_ty hrow.out).lt
              replace hbA := Box.mk hbA
              replace hrA := Box.mk hrA
              replace hz := Box.mk hz
              have d1 : wr.drew.cell? ⟨g, 2 * m, none⟩ = some (.string x) := c1
              have d2 : wr.drew.cell? ⟨g, 2 * m + 1, none⟩ = some (.string y) := c2
              clear hsx hsy hrow2 hx hy hze c1 c2
              go_wp2_with fail
              have e1 : (2 * (m : Int)).toNat = 2 * m := by omega
              have e2 : (2 * (m : Int) + 1).toNat = 2 * m + 1 := by omega
              have e3 : IntKind.i64.wrap (2 * (m : Int) + 1) = 2 * (m : Int) + 1 := by rw [IntKind.wrap_i64]; omega
              refine region_go (C := fun w' => w'.cell? ⟨g, 2 * m, none⟩ = some (.string x) ∧ w'.cell? ⟨g, 2 * m + 1, none⟩ = some (.string y)) rfl ?_
              refine go_calms [0, 1, 2, 3, 4, 5, 6, 7, 8, 9] 5 rfl (by kernel_rfl) (by kernel_rfl) (by kernel_rfl) ⟨d1, d2⟩ ?_
              simp [nth]
              try simp only [Act.put]
              repeat (go_big_quiet_step (first | exact fun _ => rfl | rfl))
              refine quiet_any rfl (.pointer (some ⟨g, 2 * m, none⟩)) (fun w' hw' => by go_simp; omega) ?_
              simp only [Act.put, List.setIfInBounds_toArray, List.set_cons_succ, List.set_cons_zero]
              refine quiet_any rfl (.string x) (fun w' hw' => by have h := hw'.1; go_simp) ?_
              simp only [Act.put, List.setIfInBounds_toArray, List.set_cons_succ, List.set_cons_zero]
              repeat (go_big_quiet_step (first | exact fun _ => rfl | rfl))
              refine quiet_any rfl (.int .i64 (2 * (m : Int) + 1)) (fun w' hw' => by go_simp) ?_
              simp only [Act.put, List.setIfInBounds_toArray, List.set_cons_succ, List.set_cons_zero]
              refine quiet_any rfl (.pointer (some ⟨g, 2 * m + 1, none⟩)) (fun w' hw' => by go_simp; omega) ?_
              simp only [Act.put, List.setIfInBounds_toArray, List.set_cons_succ, List.set_cons_zero]
              refine quiet_any rfl (.string y) (fun w' hw' => by have h := hw'.2; go_simp) ?_
              simp only [Act.put, List.setIfInBounds_toArray, List.set_cons_succ, List.set_cons_zero]
              refine wpQuiet_nil ?_
              refine go_forced 10 (by kernel_rfl) (goOp_wp 10 rfl rfl (fun K hK => ?_))
              go_simp
              refine hK _ _ cA ?_
              clear hK K
              refine go_forced 11 (by kernel_rfl) (goOp_wp 11 rfl rfl (fun K hK => ?_))
              go_simp
              refine hF.mono ?_
              rintro e wB ⟨rfl, hbB⟩
              have cB : wB.cell? ⟨g, 2 * m, none⟩ = some (.string x) ∧ wB.cell? ⟨g, 2 * m + 1, none⟩ = some (.string y) := ⟨by rw [← cA.1]; exact hbB.cell (p := ⟨g, 2 * m, none⟩) tyA, by rw [← cA.2]; exact hbB.cell (p := ⟨g, 2 * m + 1, none⟩) tyA⟩
              refine hK _ _ cB ?_
              have hb2 : Below wr.heap.size wr wB := mono_bel hbA.out hbB (Nat.le_refl _)
              clear hK K hF cA hwA
              obtain ⟨wC, hwC⟩ : ∃ wC, wB.alloc (.cells #[.string z] 9) = wC := ⟨_, rfl⟩
              have hbC : Below wB.heap.size wB wC := by rw [← hwC]; exact (Below.refl _ _).alloc (Nat.le_refl _) _
              have hb3 : Below wr.heap.size wr wC := mono_bel hb2 hbC (Nat.le_refl _)
              have hR3 := hU.out.row.chg (chg0 (S := fun _ => False) hb3) (fun _ _ h => h)
              have hc3 := one_new wB (.string z) 9
              rw [hwC] at hc3
              have ho3 : ∀ u ∈ [Value.string z], u.oneCell' = true := by simp [Value.oneCell']
              have hg3 : g < wB.heap.size := Nat.lt_of_lt_of_le tyA hbB.size
              have cC : wC.cell? ⟨g, 2 * m, none⟩ = some (.string x) ∧ wC.cell? ⟨g, 2 * m + 1, none⟩ = some (.string y) := ⟨by rw [← cB.1]; exact hbC.cell (p := ⟨g, 2 * m, none⟩) hg3, by rw [← cB.2]; exact hbC.cell (p := ⟨g, 2 * m + 1, none⟩) hg3⟩
              refine go_forced 12 (by kernel_rfl) (goOp_wp 12 rfl rfl (fun K hK => ?_))
              go_simp
              refine hK _ _ cC ?_
              clear hK K
              refine go_forced 13 (by kernel_rfl) (goOp_wp 13 rfl rfl (fun K hK => ?_))
              refine Pk.wp_pushR (.tmp 61) (.tmp 73) 52 9 rfl iT (.string ⟨#[]⟩) 1 16 Tryz.underlying52 hT.out.1 hT.out.2.1 hT.out.2.2.1 hT.out.2.2.2 rfl (by omega) _ m (tx s (j + 1) m) rfl hR3 ⟨wB.heap.size, 0, none⟩ 1 1 [.string z] rfl rfl hc3 ho3 (by unfold maxLen; omega) (by omega) ?_
              intro vo wD hpush
              have hN := hU.out.push hb3 hz.out hpush
              have hgD : g < wC.heap.size := Nat.lt_of_lt_of_le hg3 hbC.size
              have hne : ¬ (fun k => u12.ownBlock = some k) g := fun e => by have := hU.out.own g e; omega
              have cD : wD.cell? ⟨g, 2 * m, none⟩ = some (.string x) ∧ wD.cell? ⟨g, 2 * m + 1, none⟩ = some (.string y) := by
                have hh := hpush.chg.block g hgD hne
                unfold World.cell? at cC ⊢
                rw [hh]
                exact cC
              go_simp
              refine hK _ _ cD ?_
              clear hK K
              refine go_calms [14] 0 rfl (by kernel_rfl) (by kernel_rfl) (by kernel_rfl) cD ?_
              simp [nth]
              try simp only [Act.put]
              repeat (go_big_quiet_step (first | exact fun _ => rfl | rfl))
              refine wpQuiet_nil ?_
              refine go_done (by kernel_rfl) ?_
              go_simp
              replace hN := Box.mk hN
              clear hpush cD hgD hne cC hg3 ho3 hc3 hR3 hb3 hbC hwC hb2 cB hbB tyA hgb hrA hbA hz hU d1 d2
              go_wp2_with fail
              exact ⟨⟨m + 1, by omega, by go_num, hN⟩, by simp [intOf]; omega⟩
            · obtain rfl : m = q := by omega
              have hrow2 := hU.out.row
              obtain ⟨g2, c2, rfl, hgl⟩ := hrow2.some hq1
              have hQ2 := hQ.out.here hU.out.bel
              obtain ⟨w5, hw5⟩ : ∃ w5, wr.alloc (.cells #[.slice (some ⟨g2, 0, none⟩) m c2] 52) = w5 := ⟨_, rfl⟩
              have hb5 : Below wr.heap.size wr w5 := by rw [← hw5]; exact (Below.refl _ _).alloc (Nat.le_refl _) _
              have hc5 := Box.mk (one_new wr (.slice (some ⟨g2, 0, none⟩) m c2) 52)
              rw [hw5] at hc5
              have ho5 : Box (∀ u ∈ [Value.slice (some ⟨g2, 0, none⟩) m c2], u.oneCell' = true) := ⟨by simp [Value.oneCell']⟩
              have k2 : wr.cell? ⟨w.heap.size, 2, none⟩ = some (.slice (some ⟨bl, 0, none⟩) (j + 1) cl) := hQ2.blk.cell 2
              have hQ5 := hQ2.here hb5
              have hr5 := Box.mk hQ5.row
              have hlim : Box (j + 1 + 1 ≤ maxLen ∧ (j + 1 + 1) * 24 ≤ 140737488355328) := ⟨by unfold maxLen; omega, by omega⟩
              replace hQ5 := Box.mk hQ5
              replace hb5 := Box.mk hb5
              replace hQ2 := Box.mk hQ2
              clear hrow2 hgl
              have hge : ¬ (2 * (m : Int) < 2 * (m : Int)) := by omega
              go_wp2_with (refine Pk.wpList_pushR rfl (.tmp 79) (.tmp 81) 39 52 rfl iS (.slice none 0 0) 1 24 Tryz.underlying39 hS.out.1 hS.out.2.1 hS.out.2.2.1 hS.out.2.2.2 rfl (by omega) _ (j + 1) (lvs lv (j + 1)) rfl hr5.out ⟨wr.heap.size, 0, none⟩ 1 1 [.slice (some ⟨g2, 0, none⟩) m c2] rfl rfl hc5.out ho5.out hlim.out.1 hlim.out.2 ?_; intro vo w6 hpush0; have hpush := QPart.told hQ5.out hpush0; clear hpush0; obtain ⟨bl6, cl6, rfl, hbl6⟩ := hpush.row.some (Nat.succ_pos _); have hK6 := Box.mk (hpush.chg.blk hQ5.out.blk (fun e => hQ5.out.bl_ne (by simpa [Value.ownBlock] using e))); have k6 : w6.cell? ⟨w.heap.size, 2, none⟩ = some (.slice (some ⟨bl, 0, none⟩) (j + 1) cl) := hK6.out.cell 2; have f6 := hK6.out.free 2; clear hbl6)
              obtain ⟨k7, hpl, hc7⟩ := QPart.push hq.out hQ2.out hU.out.row hb5.out hpush
              have hB7 := (mono_bel hB.out hU.out.bel (Nat.le_refl _)).trans (hc7.below (B := w.heap.size) (mono_bel hB.out hU.out.bel (Nat.le_refl _)).size (fun i hi => by have := hbl.out; omega))
              refine ⟨⟨j + 1, bl6, cl6, _, by omega, ?_, by go_num, ⟨k7⟩, ⟨?_⟩, ⟨hB7⟩⟩, by simp [intOf]; omega⟩
              · exact (if_neg (by omega)).symm
              · have h1 := (mono_bel hB.out hU.out.bel (Nat.le_refl _)).size
                have h2 := hbl.out
                have h3 := hQ2.out.blk.lt
                omega
        · obtain rfl : j = h := by omega
          obtain ⟨g, c, hlv, hrow⟩ := hQ.out.lev j (Nat.le_refl _)
          rw [hlv]
          clear hrow hlv
          go_wp2_with fail
          go_returns
          exact ⟨rfl, ⟨bl, cl, lv, hQ.out⟩, hB.out⟩
end Go.Proofs.YtbnmdieadaeeiaaGreatDoor

namespace Go.Proofs.YtbnmdieadaeeiaaGreatDoor
open Go Go.RowKit

def QKey (w : World) (b : Nat) (s : ByteArray) (h u : Nat) : Prop := (∃ bl cl lv, QPart w b s h u bl cl lv h) ∧ h ≤ 4
theorem QKey.blk {w : World} {b : Nat} {s : ByteArray} {h u : Nat} (q : QKey w b s h u) : ∃ v, Blk w b (qcells s h v u) 41 := by
  obtain ⟨⟨bl, cl, lv, hq⟩, _⟩ := q
  exact ⟨_, hq.blk⟩
theorem QKey.lt {w : World} {b : Nat} {s : ByteArray} {h u : Nat} (q : QKey w b s h u) : b < w.heap.size := by
  obtain ⟨v, hb⟩ := q.blk
  exact hb.lt
theorem QKey.keep {S : Nat → Prop} {w w' : World} {b : Nat} {s : ByteArray} {h u : Nat} (q : QKey w b s h u) (hc : Pk.Chg S w w')
    (hS : ∀ i t, i < w.heap.size → S i → Ty w i t → t ≠ 41 ∧ t ≠ 52 ∧ t ≠ 9) : QKey w' b s h u := by
  obtain ⟨⟨bl, cl, lv, hq⟩, hh⟩ := q
  exact ⟨⟨bl, cl, lv, hq.keep hc hS⟩, hh⟩
theorem QKey.here {w w' : World} {b : Nat} {s : ByteArray} {h u : Nat} (q : QKey w b s h u) (hb : Below w.heap.size w w') : QKey w' b s h u :=
  q.keep (S := fun _ => False) (chg0 hb) (fun _ _ _ hf _ => hf.elim)
/-- Another number of used ones. -/
theorem QKey.use {w : World} {b : Nat} {s : ByteArray} {h u : Nat} (q : QKey w b s h u) (v : Nat) : QKey (w.setCell ⟨b, 3, none⟩ (.int .i64 (v : Int))) b s h v := by
  obtain ⟨⟨bl, cl, lv, hq⟩, hh⟩ := q
  have hne := hq.bl_ne
  refine ⟨⟨bl, cl, lv, hq.blk.setCell 3 (.int .i64 (v : Int)), hq.row.kept fun k hk => ?_, fun i hi => ?_⟩, hh⟩
  · obtain rfl : bl = k := by simpa [Value.ownBlock] using hk
    exact Below.heap_setCell _ _ _ _ (by simpa using hne)
  · obtain ⟨g, c, e1, hr⟩ := hq.lev i hi
    refine ⟨g, c, e1, hr.kept fun k hk => ?_⟩
    obtain rfl : g = k := by simpa [Value.ownBlock] using hk
    refine Below.heap_setCell _ _ _ _ (fun e => ?_)
    obtain rfl : g = b := e
    exact absurd (hq.blk.ty.inj (Row_ty hr)) (by decide)
/-- The cells that a call reads. -/
structure QC (w : World) (b h u bl cl g c : Nat) (j i n : Nat) (x : ByteArray) : Prop where
  c1 : w.cell? ⟨b, 1, none⟩ = some (.int .i64 (h : Int))
  c2 : w.cell? ⟨b, 2, none⟩ = some (.slice (some ⟨bl, 0, none⟩) (h + 1) cl)
  c3 : w.cell? ⟨b, 3, none⟩ = some (.int .i64 (u : Int))
  l : w.cell? ⟨bl, j, none⟩ = some (.slice (some ⟨g, 0, none⟩) n c)
  x : w.cell? ⟨g, i, none⟩ = some (.string x)
theorem QC.below {w w' : World} {b h u bl cl g c j i n : Nat} {x : ByteArray} (q : QC w b h u bl cl g c j i n x) (hb : Below w.heap.size w w') : QC w' b h u bl cl g c j i n x := by
  have lt : ∀ p v, w.cell? p = some v → w'.cell? p = some v := fun p v hp => by
    by_cases hl : p.block < w.heap.size
    · rw [hb.cell hl]; exact hp
    · exfalso
      unfold World.cell? at hp
      rw [Array.getElem?_eq_none (by omega)] at hp
      cases hp
  exact ⟨lt _ _ q.c1, lt _ _ q.c2, lt _ _ q.c3, lt _ _ q.l, lt _ _ q.x⟩
theorem QPart.qc {w : World} {b : Nat} {s : ByteArray} {h u bl cl : Nat} {lv : Nat → Value} (q : QPart w b s h u bl cl lv h) (j i : Nat) (hj : j ≤ h) (hi : i < 2 ^ (h - j)) : ∃ g c, QC w b h u bl cl g c j i (2 ^ (h - j)) (lvl s j i) := by
  obtain ⟨g, c, e, hr⟩ := q.lev j hj
  refine ⟨g, c, q.blk.cell 1, q.blk.cell 2, q.blk.cell 3, ?_, ?_⟩
  · rw [q.row.cells j _ (lvs_get lv (h + 1) j (by omega)), e]
  · exact hr.cells i _ (tx_get _ _ _ _ hi)
set_option maxHeartbeats 1600000 in
set_option maxRecDepth 100000 in
theorem r6ID_any (b : Nat) (s : ByteArray) (h u : Nat) (w : World) (q : QKey w b s h u) :
    Calls Tryz.prog 15 #[.pointer (some ⟨b, 0, none⟩)] w fun e w' => e = .returned (.string (keyID s h)) ∧ Below w.heap.size w w' := by
  obtain ⟨⟨bl, cl, lv, hq⟩, hh⟩ := q
  obtain ⟨g, c, hc⟩ := hq.qc h 0 (Nat.le_refl _) (by simp)
  rw [Nat.sub_self, Nat.pow_zero] at hc
  have hF := r6id_any h (lvl s h 0) w.drew (by omega) (lvl_size _ _ _)
  obtain ⟨x, hx⟩ : ∃ x, lvl s h 0 = x := ⟨_, rfl⟩
  obtain ⟨y, hy⟩ : ∃ y, idV h x = y := ⟨_, rfl⟩
  rw [show keyID s h = idV h (lvl s h 0) from rfl]
  rw [hx] at hc hF ⊢
  rw [hy] at hF ⊢
  have hd : QC w.drew b h u bl cl g c h 0 1 x := hc.below (dB w)
  clear hq hc hx hy
  go_enter Tryz.func15, Tryz.ntmps15
  go_wp2_with fail
  refine region_go (C := fun w' => QC w' b h u bl cl g c h 0 1 x) rfl ?_
  refine go_calms [0, 1, 2, 3, 4, 5, 6, 7, 8, 9, 10, 11, 12, 13, 14, 15] 2 rfl (by kernel_rfl) (by kernel_rfl) (by kernel_rfl) hd ?_
  simp [nth]
  try simp only [Act.put]
  repeat (go_big_quiet_step (first | exact fun _ => rfl | rfl))
  refine quiet_any rfl (.int .i64 (h : Int)) (fun w' hw' => by have h := hw'.c1; go_simp) ?_
  simp only [Act.put, List.setIfInBounds_toArray, List.set_cons_succ, List.set_cons_zero]
  repeat (go_big_quiet_step (first | exact fun _ => rfl | rfl))
  refine quiet_any rfl (.slice (some ⟨bl, 0, none⟩) (h + 1) cl) (fun w' hw' => by have h := hw'.c2; go_simp) ?_
  simp only [Act.put, List.setIfInBounds_toArray, List.set_cons_succ, List.set_cons_zero]
  repeat (go_big_quiet_step (first | exact fun _ => rfl | rfl))
  refine quiet_any rfl (.int .i64 (h : Int)) (fun w' hw' => by have h := hw'.c1; go_simp) ?_
  simp only [Act.put, List.setIfInBounds_toArray, List.set_cons_succ, List.set_cons_zero]
  repeat (go_big_quiet_step (first | exact fun _ => rfl | rfl))
  repeat (go_big_quiet_step (first | exact fun _ => rfl | rfl))
  refine quiet_any rfl (.slice (some ⟨g, 0, none⟩) 1 c) (fun w' hw' => by have h := hw'.l; go_simp) ?_
  simp only [Act.put, List.setIfInBounds_toArray, List.set_cons_succ, List.set_cons_zero]
  repeat (go_big_quiet_step (first | exact fun _ => rfl | rfl))
  refine quiet_any rfl (.string x) (fun w' hw' => by have h := hw'.x; go_simp) ?_
  simp only [Act.put, List.setIfInBounds_toArray, List.set_cons_succ, List.set_cons_zero]
  refine wpQuiet_nil ?_
  refine go_forced 16 (by kernel_rfl) (goOp_wp 16 rfl rfl (fun K hK => ?_))
  go_simp
  refine hF.mono ?_
  clear hF
  rintro e w2 ⟨rfl, hb2⟩
  have hd2 := hd.below hb2
  refine hK _ _ hd2 ?_
  have hB := Box.mk ((dB w).trans (hb2.mono (dB w).size))
  clear hK K hb2
  refine go_calms [17] 0 rfl (by kernel_rfl) (by kernel_rfl) (by kernel_rfl) hd2 ?_
  simp [nth]
  try simp only [Act.put]
  repeat (go_big_quiet_step (first | exact fun _ => rfl | rfl))
  refine wpQuiet_nil ?_
  refine go_done (by kernel_rfl) ?_
  go_simp
  go_wp2_with fail
  go_ret
  exact ⟨rfl, hB.out⟩
set_option maxHeartbeats 1600000 in
set_option maxRecDepth 100000 in
theorem r6left_any (b : Nat) (s : ByteArray) (h u : Nat) (w : World) (q : QKey w b s h u) (hu : u ≤ 2 ^ h) :
    Calls Tryz.prog 21 #[.pointer (some ⟨b, 0, none⟩)] w fun e w' => e = .returned (.int .i64 ((2 ^ h - u : Nat) : Int)) ∧ Below w.heap.size w w' := by
  obtain ⟨⟨bl, cl, lv, hq⟩, hh⟩ := q
  obtain ⟨g, c, hc⟩ := hq.qc h 0 (Nat.le_refl _) (by simp)
  have hd := hc.below (dB w)
  generalize 2 ^ (h - h) = k1 at hd
  generalize lvl s h 0 = x1 at hd
  have hB := Box.mk (dB w)
  have hp := pow_le h hh
  obtain ⟨m, hm⟩ : ∃ m, 2 ^ h = m := ⟨_, rfl⟩
  have hpi : (2 : Int) ^ h = (m : Int) := by rw [← hm]; simp
  rw [hm] at hp hu ⊢
  have hwr : IntKind.i64.wrap (m : Int) = (m : Int) := by rw [IntKind.wrap_i64]; omega
  have hws : IntKind.i64.wrap ((m : Int) - (u : Int)) = (m : Int) - (u : Int) := by rw [IntKind.wrap_i64]; omega
  clear hq hc hm
  go_enter Tryz.func21, Tryz.ntmps21
  go_wp2_with fail
  refine region_go (C := fun w' => QC w' b h u bl cl g c h 0 k1 x1) rfl ?_
  refine go_calms [0, 1, 2, 3, 4, 5, 6, 7, 8, 9, 10] 0 rfl (by kernel_rfl) (by kernel_rfl) (by kernel_rfl) hd ?_
  simp [nth]
  try simp only [Act.put]
  repeat (go_big_quiet_step (first | exact fun _ => rfl | rfl))
  refine quiet_any rfl (.int .i64 (h : Int)) (fun w' hw' => by have h := hw'.c1; go_simp) ?_
  simp only [Act.put, List.setIfInBounds_toArray, List.set_cons_succ, List.set_cons_zero]
  refine quiet_any rfl (.int .i64 (m : Int)) (fun w' hw' => by go_simp) ?_
  simp only [Act.put, List.setIfInBounds_toArray, List.set_cons_succ, List.set_cons_zero]
  repeat (go_big_quiet_step (first | exact fun _ => rfl | rfl))
  refine quiet_any rfl (.int .i64 (u : Int)) (fun w' hw' => by have h := hw'.c3; go_simp) ?_
  simp only [Act.put, List.setIfInBounds_toArray, List.set_cons_succ, List.set_cons_zero]
  refine quiet_any rfl (.int .i64 ((m : Int) - (u : Int))) (fun w' hw' => by go_simp) ?_
  simp only [Act.put, List.setIfInBounds_toArray, List.set_cons_succ, List.set_cons_zero]
  repeat (go_big_quiet_step (first | exact fun _ => rfl | rfl))
  refine wpQuiet_nil ?_
  refine go_done (by kernel_rfl) ?_
  go_simp
  go_wp2_with fail
  go_ret
  exact ⟨by rw [Ending.returned.injEq]; exact u_eq (by omega), hB.out⟩
set_option maxHeartbeats 1600000 in
set_option maxRecDepth 100000 in
theorem r6skip_any (b : Nat) (s : ByteArray) (h u : Nat) (n : Int) (w : World) (q : QKey w b s h u) :
    Calls Tryz.prog 13 #[.pointer (some ⟨b, 0, none⟩), .int .i64 n] w fun e w' => e = .returned (.tuple #[]) ∧ QKey w' b s h (skipN u n h) ∧ Pk.Chg (fun i => i = b) w w' := by
  have hqd := (q.here (dB w)).use (skipN u n h)
  have hf : w.drew.frozen? ⟨b, 3, none⟩ = false := by
    obtain ⟨v, hb⟩ := q.blk
    exact hb.free 3
  have hcd : Pk.Chg (fun i => i = b) w (w.drew.setCell ⟨b, 3, none⟩ (.int .i64 ((skipN u n h : Nat) : Int))) := Pk.Chg.setCell (p := ⟨b, 3, none⟩) (chg0 (S := fun i => i = b) (dB w)) rfl _
  obtain ⟨⟨bl, cl, lv, hq⟩, hh⟩ := q
  obtain ⟨g, c, hc⟩ := hq.qc h 0 (Nat.le_refl _) (by simp)
  have hd := hc.below (dB w)
  generalize 2 ^ (h - h) = k1 at hd
  generalize lvl s h 0 = x1 at hd
  have hp := pow_le h hh
  obtain ⟨m, hm⟩ : ∃ m, 2 ^ h = m := ⟨_, rfl⟩
  have hpi : (2 : Int) ^ h = (m : Int) := by rw [← hm]; simp
  rw [hm] at hp
  have hwr : IntKind.i64.wrap (m : Int) = (m : Int) := by rw [IntKind.wrap_i64]; omega
  obtain ⟨k, hk⟩ : ∃ k, min n (m : Int) = k := ⟨_, rfl⟩
  obtain ⟨v, hv⟩ : ∃ v, skipN u n h = v := ⟨_, rfl⟩
  have hmx : max (u : Int) k = (v : Int) := by rw [← hv, ← hk, skipN, hm]; omega
  rw [hv] at hqd hcd ⊢
  have cu := hd.c3
  have hd1 := hd.c1
  have hd2 : (w.drew.setCell ⟨b, 3, none⟩ (.int .i64 (v : Int))).cell? ⟨b, 1, none⟩ = some (.int .i64 (h : Int)) := (World.cell?_setCell_other _ ⟨b, 3, none⟩ ⟨b, 1, none⟩ _ (by simp)).trans hd1
  replace hqd := Box.mk hqd
  replace hcd := Box.mk hcd
  clear hq hc hm hv
  go_enter Tryz.func13, Tryz.ntmps13
  go_wp2_with fail
  refine region_go (C := fun w' => w'.cell? ⟨b, 1, none⟩ = some (.int .i64 (h : Int))) rfl ?_
  refine go_calms [0, 1, 2, 3, 5, 6, 7, 8, 9, 10] 6 rfl (by kernel_rfl) (by kernel_rfl) (by kernel_rfl) hd1 ?_
  simp [nth]
  try simp only [Act.put]
  repeat (go_big_quiet_step (first | exact fun _ => rfl | rfl))
  refine quiet_any rfl (.int .i64 (h : Int)) (fun w' hw' => by have h := hw'; go_simp) ?_
  simp only [Act.put, List.setIfInBounds_toArray, List.set_cons_succ, List.set_cons_zero]
  repeat (go_big_quiet_step (first | exact fun _ => rfl | rfl))
  refine wpQuiet_nil ?_
  refine go_fork 4 11 (by kernel_rfl) (goOp_wp 4 rfl rfl (fun K hK => ?_)) (goOp_wp 11 rfl rfl (fun K hK => ?_))
  · go_simp
    refine hK _ _ hd1 ?_
    clear hK K
    refine go_forced 11 (by kernel_rfl) (goOp_wp 11 rfl rfl (fun K hK => ?_))
    go_simp
    refine hK _ _ hd1 ?_
    clear hK K
    refine go_forced 12 (by kernel_rfl) (goOp_wp 12 rfl rfl (fun K hK => ?_))
    go_simp
    refine hK _ _ hd1 ?_
    clear hK K
    refine go_calms [13, 14] 1 rfl (by kernel_rfl) (by kernel_rfl) (by kernel_rfl) hd1 ?_
    simp [nth]
    try simp only [Act.put]
    repeat (go_big_quiet_step (first | exact fun _ => rfl | rfl))
    refine wpQuiet_nil ?_
    refine go_forced 15 (by kernel_rfl) (goOp_wp 15 rfl rfl (fun K hK => ?_))
    go_simp
    refine hK _ _ hd2 ?_
    clear hK K
    refine go_done (by kernel_rfl) ?_
    go_simp
    go_wp2_with fail
    go_end0
    exact ⟨rfl, hqd.out, hcd.out⟩
  · go_simp
    refine hK _ _ hd1 ?_
    clear hK K
    refine go_forced 4 (by kernel_rfl) (goOp_wp 4 rfl rfl (fun K hK => ?_))
    go_simp
    refine hK _ _ hd1 ?_
    clear hK K
    refine go_forced 12 (by kernel_rfl) (goOp_wp 12 rfl rfl (fun K hK => ?_))
    go_simp
    refine hK _ _ hd1 ?_
    clear hK K
    refine go_calms [13, 14] 1 rfl (by kernel_rfl) (by kernel_rfl) (by kernel_rfl) hd1 ?_
    simp [nth]
    try simp only [Act.put]
    repeat (go_big_quiet_step (first | exact fun _ => rfl | rfl))
    refine wpQuiet_nil ?_
    refine go_forced 15 (by kernel_rfl) (goOp_wp 15 rfl rfl (fun K hK => ?_))
    go_simp
    refine hK _ _ hd2 ?_
    clear hK K
    refine go_done (by kernel_rfl) ?_
    go_simp
    go_wp2_with fail
    go_end0
    exact ⟨rfl, hqd.out, hcd.out⟩
end Go.Proofs.YtbnmdieadaeeiaaGreatDoor

namespace Go.Proofs.YtbnmdieadaeeiaaGreatDoor
open Go Go.RowKit

theorem keyS_acc (s : ByteArray) (h n : Nat) (t : ByteArray) : keyS s h n t = (by1 h ++ by2 n ++ sigT s n t) ++ accT (besV s n) h := rfl
theorem app_accT (x : ByteArray) (g : Nat → ByteArray) (j : Nat) : (x ++ accT g j) ++ g j = x ++ accT g (j + 1) := by rw [ByteArray.append_assoc, accT_succ]
theorem app_acc0 (x : ByteArray) (g : Nat → ByteArray) : x ++ accT g 0 = x := by rw [accT_zero]; exact ByteArray.append_empty
set_option maxHeartbeats 3200000 in
set_option maxRecDepth 100000 in
theorem r6at_any (b : Nat) (s t : ByteArray) (h u n : Nat) (w : World) (q : QKey w b s h u) (hn : n < 2 ^ h) (hs : s.size ≤ 140737488351232) (ht : t.size ≤ 140737488351232) :
    Calls Tryz.prog 25 #[.pointer (some ⟨b, 0, none⟩), .int .i64 (n : Int), .string t] w fun e w' => e = .returned (.string (keyS s h n t)) ∧ Below w.heap.size w w' := by
  have hp := pow_le h q.2
  have hS := rsign_ok s t n w (by omega) hs ht
  have c0 : w.cell? ⟨b, 0, none⟩ = some (.string s) := by
    obtain ⟨v, hb⟩ := q.blk
    exact hb.cell 0
  have hQ := Box.mk q
  have hNum := fun w => rnumber_any n w
  have hh := q.2
  have hE := keyS_acc s h n t
  obtain ⟨g, hg⟩ : ∃ g, sigT s n t = g := ⟨_, rfl⟩
  rw [hg] at hS hE
  rw [hE]
  obtain ⟨x, hx⟩ : ∃ x, UInt8.ofNat h = x := ⟨_, rfl⟩
  have hv : (h : Int) = (x.toNat : Int) := by rw [← hx, UInt8.toNat_ofNat']; omega
  have hxl : x.toNat < 256 := x.toNat_lt
  have hbx : by1 h = one x := by rw [by1, hx]
  have hA0 := app_acc0 (by1 h ++ by2 n ++ g) (besV s n)
  have hAs := app_accT (by1 h ++ by2 n ++ g) (besV s n)
  rw [hbx] at hA0 hAs ⊢
  obtain ⟨x2, hx2⟩ : ∃ x, by2 n = x := ⟨_, rfl⟩
  rw [hx2] at hNum hA0 hAs ⊢
  obtain ⟨G, hG⟩ : ∃ G : Nat → ByteArray, (fun j => one x ++ x2 ++ g ++ accT (besV s n) j) = G := ⟨_, rfl⟩
  rw [show one x ++ x2 ++ g ++ accT (besV s n) h = G h by rw [← hG]]
  have hG0 : G 0 = one x ++ x2 ++ g := by rw [← hG]; exact hA0
  have hGs : ∀ j, G j ++ besV s n j = G (j + 1) := fun j => by rw [← hG]; exact hAs j
  have hwn : (n : Int) < 16 := by omega
  have y1 : (one x).size = 1 := rfl
  have y2 : x2.size = 2 := by rw [← hx2]; rfl
  have y3 : g.size = 288 := by rw [← hg]; exact sigT_size _ _ _
  have hGz : ∀ j, (G j).size = 291 + 32 * j := fun j => by
    rw [← hG]
    simp only [ByteArray.size_append, accT32 (besV s n) (besV_size s n) j, y1, y2, y3]
  have z1 : (one x).size + x2.size ≤ 9223372036854775807 := by omega
  have z2 : (one x).size + x2.size + g.size ≤ 9223372036854775807 := by omega
  replace hGz := Box.mk hGz
  replace hGs := Box.mk hGs
  replace hG0 := Box.mk hG0
  replace hn := Box.mk hn
  replace hv := Box.mk hv
  clear hA0 hAs hG hE hx hx2 hg q hbx y1 y2 y3
  go_enter Tryz.func25, Tryz.ntmps25
  go_wp2_with fail
  refine hS.mono ?_
  clear hS
  rintro e wz ⟨rfl, hb1⟩
  have hQ1 := Box.mk (hQ.out.here hb1)
  have hBz := Box.mk hb1
  have hCw : Box (∀ W, Below wz.heap.size wz W → W.cell? ⟨b, 1, none⟩ = some (.int .i64 (x.toNat : Int))) := ⟨fun W hW => by
    obtain ⟨v, hb⟩ := (hQ1.out.here hW).blk
    rw [← hv.out]
    exact hb.cell 1⟩
  clear hQ hb1 c0
  go_upto_region 2 with fail
  go_cut [9] from 21 (fun v9 wc => v9 = .string (G 0) ∧ Box (Below wz.heap.size wz wc))
  case first =>
    go_wp2_with fail
    have c1 := hCw.out _ (dB wz)
    have hBd : Box (Below wz.heap.size wz wz.drew) := ⟨dB wz⟩
    refine region_go (C := fun w' => w'.cell? ⟨b, 1, none⟩ = some (.int .i64 (x.toNat : Int))) rfl ?_
    generalize wz.drew = wd at hBd c1 ⊢
    refine go_calms [0, 1, 2, 3, 4, 7, 8, 11] 6 rfl (by kernel_rfl) (by kernel_rfl) (by kernel_rfl) c1 ?_
    simp [nth]
    try simp only [Act.put]
    repeat (go_big_quiet_step (first | exact fun _ => rfl | rfl))
    refine quiet_any rfl (.int .i64 (x.toNat : Int)) (fun w' hw' => by have h := hw'; go_simp) ?_
    simp only [Act.put, List.setIfInBounds_toArray, List.set_cons_succ, List.set_cons_zero]
    repeat (go_big_quiet_step (first | exact fun _ => rfl | rfl))
    refine wpQuiet_nil ?_
    refine go_fork 5 9 (by kernel_rfl) (goOp_wp 5 rfl rfl (fun K hK => ?_)) (goOp_wp 9 rfl rfl (fun K hK => ?_))
    · go_simp
      have hB1 : Box (Below wz.heap.size wz (wd.alloc (.cells #[Value.int .u8 (x.toNat : Int)] 5))) := ⟨hBd.out.alloc hBd.out.size _⟩
      refine hK _ _ (hCw.out _ hB1.out) ?_
      clear hK K
      have hO1_1 := Box.mk (own_one wd x)
      clear hBd
      obtain ⟨a1, ha1⟩ : ∃ a, wd.heap.size = a := ⟨_, rfl⟩
      rw [ha1] at hO1_1 ⊢
      generalize wd.alloc (.cells #[Value.int .u8 (x.toNat : Int)] 5) = w1 at hB1 hO1_1 ⊢
      clear ha1
      refine go_fork 6 9 (by kernel_rfl) (goOp_wp 6 rfl rfl (fun K hK => ?_)) (goOp_wp 9 rfl rfl (fun K hK => ?_))
      · have hcv2 := own_text hO1_1.out
        rw [show (⟨[x].toArray⟩ : ByteArray) = one x from rfl] at hcv2
        go_simp
        refine hK _ _ (hCw.out _ hB1.out) ?_
        clear hK K hcv2 hO1_1
        refine go_forced 9 (by kernel_rfl) (goOp_wp 9 rfl rfl (fun K hK => ?_))
        go_simp
        refine (hNum w1).mono ?_
        rintro e w3 ⟨rfl, hb3⟩
        have hB3 : Box (Below wz.heap.size wz w3) := ⟨hB1.out.trans (hb3.mono hB1.out.size)⟩
        refine hK _ _ (hCw.out _ hB3.out) ?_
        clear hK K
        clear hb3 hB1
        have cE := hCw.out _ hB3.out
        refine go_calms [10, 12, 13] 0 rfl (by kernel_rfl) (by kernel_rfl) (by kernel_rfl) cE ?_
        simp [nth]
        try simp only [Act.put]
        refine quiet_any rfl (.string (one x ++ x2)) (fun w' hw' => by go_simp) ?_
        simp only [Act.put, List.setIfInBounds_toArray, List.set_cons_succ, List.set_cons_zero]
        refine quiet_any rfl (.string (one x ++ x2 ++ g)) (fun w' hw' => by go_simp) ?_
        simp only [Act.put, List.setIfInBounds_toArray, List.set_cons_succ, List.set_cons_zero]
        repeat (go_big_quiet_step (first | exact fun _ => rfl | rfl))
        refine wpQuiet_nil ?_
        refine go_done (by kernel_rfl) ?_
        go_simp
        go_wp2_with fail
        go_meet
        exact ⟨by rw [hG0.out], hB3⟩
      · go_simp
        refine (hNum w1).mono ?_
        rintro e w4 ⟨rfl, hb4⟩
        have hB4 : Box (Below wz.heap.size wz w4) := ⟨hB1.out.trans (hb4.mono hB1.out.size)⟩
        refine hK _ _ (hCw.out _ hB4.out) ?_
        clear hK K
        have hO1_4 := Box.mk (ownsRow_below hO1_1.out hb4)
        clear hb4 hB1 hO1_1
        refine go_forced 6 (by kernel_rfl) (goOp_wp 6 rfl rfl (fun K hK => ?_))
        have hcv5 := own_text hO1_4.out
        rw [show (⟨[x].toArray⟩ : ByteArray) = one x from rfl] at hcv5
        go_simp
        refine hK _ _ (hCw.out _ hB4.out) ?_
        clear hK K hcv5 hO1_4
        have cE := hCw.out _ hB4.out
        refine go_calms [10, 12, 13] 0 rfl (by kernel_rfl) (by kernel_rfl) (by kernel_rfl) cE ?_
        simp [nth]
        try simp only [Act.put]
        refine quiet_any rfl (.string (one x ++ x2)) (fun w' hw' => by go_simp) ?_
        simp only [Act.put, List.setIfInBounds_toArray, List.set_cons_succ, List.set_cons_zero]
        refine quiet_any rfl (.string (one x ++ x2 ++ g)) (fun w' hw' => by go_simp) ?_
        simp only [Act.put, List.setIfInBounds_toArray, List.set_cons_succ, List.set_cons_zero]
        repeat (go_big_quiet_step (first | exact fun _ => rfl | rfl))
        refine wpQuiet_nil ?_
        refine go_done (by kernel_rfl) ?_
        go_simp
        go_wp2_with fail
        go_meet
        exact ⟨by rw [hG0.out], hB4⟩
    · go_simp
      refine (hNum wd).mono ?_
      rintro e w6 ⟨rfl, hb6⟩
      have hB6 : Box (Below wz.heap.size wz w6) := ⟨hBd.out.trans (hb6.mono hBd.out.size)⟩
      refine hK _ _ (hCw.out _ hB6.out) ?_
      clear hK K
      clear hb6 hBd
      refine go_forced 5 (by kernel_rfl) (goOp_wp 5 rfl rfl (fun K hK => ?_))
      go_simp
      have hB7 : Box (Below wz.heap.size wz (w6.alloc (.cells #[Value.int .u8 (x.toNat : Int)] 5))) := ⟨hB6.out.alloc hB6.out.size _⟩
      refine hK _ _ (hCw.out _ hB7.out) ?_
      clear hK K
      have hO1_7 := Box.mk (own_one w6 x)
      clear hB6
      obtain ⟨a7, ha7⟩ : ∃ a, w6.heap.size = a := ⟨_, rfl⟩
      rw [ha7] at hO1_7 ⊢
      generalize w6.alloc (.cells #[Value.int .u8 (x.toNat : Int)] 5) = w7 at hB7 hO1_7 ⊢
      clear ha7
      refine go_forced 6 (by kernel_rfl) (goOp_wp 6 rfl rfl (fun K hK => ?_))
      have hcv8 := own_text hO1_7.out
      rw [show (⟨[x].toArray⟩ : ByteArray) = one x from rfl] at hcv8
      go_simp
      refine hK _ _ (hCw.out _ hB7.out) ?_
      clear hK K hcv8 hO1_7
      have cE := hCw.out _ hB7.out
      refine go_calms [10, 12, 13] 0 rfl (by kernel_rfl) (by kernel_rfl) (by kernel_rfl) cE ?_
      simp [nth]
      try simp only [Act.put]
      refine quiet_any rfl (.string (one x ++ x2)) (fun w' hw' => by go_simp) ?_
      simp only [Act.put, List.setIfInBounds_toArray, List.set_cons_succ, List.set_cons_zero]
      refine quiet_any rfl (.string (one x ++ x2 ++ g)) (fun w' hw' => by go_simp) ?_
      simp only [Act.put, List.setIfInBounds_toArray, List.set_cons_succ, List.set_cons_zero]
      repeat (go_big_quiet_step (first | exact fun _ => rfl | rfl))
      refine wpQuiet_nil ?_
      refine go_done (by kernel_rfl) ?_
      go_simp
      go_wp2_with fail
      go_meet
      exact ⟨by rw [hG0.out], hB7⟩
  case rest =>
    clear hCw
    obtain ⟨rfl, hB2⟩ := hcut
    have hQ2 := Box.mk (hQ1.out.here hB2.out)
    have hB3 := Box.mk (mono_bel hBz.out hB2.out (Nat.le_refl _))
    clear hQ1 hB2 hBz hNum hG0 z1 z2
    replace hxl := Box.mk hxl
    go_wp2_with fail
    go_loopw [9, 10] (fun v9 v10 wr => ∃ j : Nat, j ≤ h ∧ v9 = .string (G j) ∧ v10 = .int .i64 (j : Int) ∧ Box (QKey wr b s h u) ∧ Box (Below w.heap.size w wr)) (fun _ v10 _ => h - (intOf v10).toNat)
    case atStart => exact ⟨0, by omega, rfl, rfl, hQ2, hB3⟩
    case round =>
      clear hQ2 hB3
      obtain ⟨j, hj, rfl, rfl, hQ, hB⟩ := hrel
      obtain ⟨⟨bl, cl, lv, hq⟩, _⟩ := hQ.out
      by_cases hlt : j < h
      · have hm1 : n / 2 ^ j < 2 ^ (h - j) := by
          rw [Nat.div_lt_iff_lt_mul (Nat.two_pow_pos j), ← Nat.pow_add, show h - j + j = h by omega]
          exact hn.out
        have hpe : 2 ^ (h - j) = 2 * 2 ^ (h - (j + 1)) := by rw [← Nat.pow_succ']; congr 1; omega
        have hle : 2 ^ (h - j) ≤ 16 := pow_le _ (by omega)
        have hdv : (n : Int) / 2 ^ j = ((n / 2 ^ j : Nat) : Int) := by simp
        obtain ⟨m, hm⟩ : ∃ m, n / 2 ^ j = m := ⟨_, rfl⟩
        rw [hm] at hm1 hdv
        have hnb : nb m < 2 ^ (h - j) := by unfold nb; split <;> omega
        obtain ⟨g1, c1, hc⟩ := hq.qc j (nb m) (by omega) hnb
        have hx : bits .xor .i64 (m : Int) 1 = ((nb m : Nat) : Int) := xor_nb m (by omega)
        have hGj := hGs.out j
        have hGl := hGz.out j
        have hyz := besV_size s n j
        rw [show besV s n j = lvl s j (nb m) by rw [besV, hm]] at hGj hyz
        obtain ⟨y, hy⟩ : ∃ y, lvl s j (nb m) = y := ⟨_, rfl⟩
        rw [hy] at hc hGj hyz
        obtain ⟨q, hq2⟩ : ∃ q, nb m = q := ⟨_, rfl⟩
        obtain ⟨N, hN⟩ : ∃ N, 2 ^ (h - j) = N := ⟨_, rfl⟩
        rw [hq2] at hc hnb hx
        rw [hN] at hc hnb hle hm1
        have hd : QC wr.drew b h u bl cl g1 c1 j q N y := hc.below (dB wr)
        have k1 := hc.c1
        have z3 : (G j).size + y.size ≤ 9223372036854775807 := by omega
        have hQd := Box.mk (hQ.out.here (dB wr))
        have hBd := Box.mk (mono_bel hB.out (dB wr) (Nat.le_refl _))
        replace hGj := Box.mk hGj
        clear hq hm hq2 hN hpe hy hGl hyz hQ hB hc
        go_wp2_with fail
        refine region_go (C := fun w' => QC w' b h u bl cl g1 c1 j q N y) rfl ?_
        refine go_calms [0, 1, 2, 3, 4, 5, 6, 7, 8, 9, 10, 11, 12, 13, 14, 15] 0 rfl (by kernel_rfl) (by kernel_rfl) (by kernel_rfl) hd ?_
        simp [nth]
        try simp only [Act.put]
        repeat (go_big_quiet_step (first | exact fun _ => rfl | rfl))
        refine quiet_any rfl (.slice (some ⟨bl, 0, none⟩) (h + 1) cl) (fun w' hw' => by have h := hw'.c2; go_simp) ?_
        simp only [Act.put, List.setIfInBounds_toArray, List.set_cons_succ, List.set_cons_zero]
        repeat (go_big_quiet_step (first | exact fun _ => rfl | rfl))
        refine quiet_any rfl (.slice (some ⟨g1, 0, none⟩) N c1) (fun w' hw' => by have h := hw'.l; go_simp) ?_
        simp only [Act.put, List.setIfInBounds_toArray, List.set_cons_succ, List.set_cons_zero]
        repeat (go_big_quiet_step (first | exact fun _ => rfl | rfl))
        refine quiet_any rfl (.string y) (fun w' hw' => by have h := hw'.x; go_simp) ?_
        simp only [Act.put, List.setIfInBounds_toArray, List.set_cons_succ, List.set_cons_zero]
        refine quiet_any rfl (.string (G j ++ y)) (fun w' hw' => by go_simp) ?_
        simp only [Act.put, List.setIfInBounds_toArray, List.set_cons_succ, List.set_cons_zero]
        repeat (go_big_quiet_step (first | exact fun _ => rfl | rfl))
        refine wpQuiet_nil ?_
        refine go_done (by kernel_rfl) ?_
        go_simp
        clear hd k1 hx hdv z3
        go_wp2_with fail
        exact ⟨⟨j + 1, by omega, by rw [hGj.out], by go_num, hQd, hBd⟩, by simp [intOf]; omega⟩
      · obtain rfl : j = h := by omega
        have k1 : wr.cell? ⟨b, 1, none⟩ = some (.int .i64 (j : Int)) := hq.blk.cell 1
        clear hq
        go_wp2_with fail
        go_ret
        exact ⟨rfl, hB.out⟩
set_option maxHeartbeats 800000 in
set_option maxRecDepth 100000 in
theorem r6sign_key (b : Nat) (s t : ByteArray) (h u : Nat) (w : World) (q : QKey w b s h u) (hu : u < 2 ^ h) (hs : s.size ≤ 140737488351232) (ht : t.size ≤ 140737488351232) :
    Calls Tryz.prog 18 #[.pointer (some ⟨b, 0, none⟩), .string t] w fun e w' => e = .returned (.tuple #[.string (keyS s h u t), .int .i64 0]) ∧ QKey w' b s h (u + 1) ∧ Pk.Chg (fun i => i = b) w w' := by
  have hL := r6left_any b s h u w q (by omega)
  have hp := pow_le h q.2
  have hl0 : (((2 ^ h - u : Nat) : Int) == 0) = false := by simp; omega
  have hl1 : ¬ (((2 ^ h - u : Nat) : Int) = 0) := by omega
  have hA := fun w' (k : QKey w' b s h (u + 1)) => r6at_any b s t h (u + 1) u w' k hu hs ht
  obtain ⟨L, hLe⟩ : ∃ L : Int, ((2 ^ h - u : Nat) : Int) = L := ⟨_, rfl⟩
  obtain ⟨y, hy⟩ : ∃ y, keyS s h u t = y := ⟨_, rfl⟩
  rw [hLe] at hL hl0 hl1
  rw [hy] at hA ⊢
  have hu16 : (u : Int) < 16 := by omega
  have hQ := Box.mk q
  replace hA := Box.mk hA
  clear hLe hy hp hu q hs ht
  go_enter Tryz.func18, Tryz.ntmps18
  go_wp2_with fail
  refine hL.mono ?_
  clear hL
  rintro e w1 ⟨rfl, hb1⟩
  have hQ1 := hQ.out.here hb1
  have hQ2 := hQ1.use (u + 1)
  have c3 : w1.cell? ⟨b, 3, none⟩ = some (.int .i64 (u : Int)) := by
    obtain ⟨⟨bl, cl, lv, hq⟩, _⟩ := hQ1
    exact hq.blk.cell 3
  have f3 : w1.frozen? ⟨b, 3, none⟩ = false := by
    obtain ⟨v, hb⟩ := hQ1.blk
    exact hb.free 3
  have hc2 : Pk.Chg (fun i => i = b) w (w1.setCell ⟨b, 3, none⟩ (.int .i64 ((u + 1 : Nat) : Int))) := Pk.Chg.setCell (p := ⟨b, 3, none⟩) (chg0 (S := fun i => i = b) hb1) rfl _
  rw [show ((u + 1 : Nat) : Int) = (u : Int) + 1 by omega] at hQ2 hc2
  obtain ⟨w2, hw2⟩ : ∃ w2, w1.setCell ⟨b, 3, none⟩ (.int .i64 ((u : Int) + 1)) = w2 := ⟨_, rfl⟩
  rw [hw2] at hQ2 hc2
  have hF := hA.out w2 hQ2
  have d3 : w2.cell? ⟨b, 3, none⟩ = some (.int .i64 ((u : Int) + 1)) := by
    obtain ⟨⟨bl, cl, lv, hq⟩, _⟩ := hQ2
    exact hq.blk.cell 3
  replace hQ2 := Box.mk hQ2
  replace hc2 := Box.mk hc2
  clear hQ1 hQ hA hb1
  go_wp2_with fail
  refine hF.mono ?_
  clear hF
  rintro e w3 ⟨rfl, hb3⟩
  have hQ3 := Box.mk (hQ2.out.here hb3)
  have hc3 := Box.mk (hc2.out.trans (chg0 (S := fun i => i = b) hb3) (fun _ _ h => h))
  clear hb3 hQ2 hc2
  go_wp2_with fail
  go_returns
  exact ⟨rfl, hQ3.out, hc3.out⟩
set_option maxHeartbeats 800000 in
set_option maxRecDepth 100000 in
theorem r6sign_spent (b : Nat) (s t : ByteArray) (h : Nat) (w : World) (q : QKey w b s h (2 ^ h)) :
    Calls Tryz.prog 18 #[.pointer (some ⟨b, 0, none⟩), .string t] w fun e w' => e = .returned (.tuple #[.string ⟨#[]⟩, .int .i64 8]) ∧ Below w.heap.size w w' := by
  have hL := r6left_any b s h (2 ^ h) w q (Nat.le_refl _)
  rw [Nat.sub_self] at hL
  clear q
  go_enter Tryz.func18, Tryz.ntmps18
  go_wp2_with fail
  refine hL.mono ?_
  clear hL
  rintro e w1 ⟨rfl, hb1⟩
  replace hb1 := Box.mk hb1
  go_wp2_with fail
  go_returns
  exact ⟨rfl, hb1.out⟩
end Go.Proofs.YtbnmdieadaeeiaaGreatDoor

namespace Go.Proofs.YtbnmdieadaeeiaaGreatDoor
open Go Go.ChangeShapes Go.WideShapes Go.ChangeAt Go.RowKit Go.ChangeMaps

theorem u8_nat {n : Int} (h : (Lit.int .u8 n).wf = true) : ∃ k : Nat, k < 256 ∧ n = (k : Int) := by
  have h0 : IntKind.u8.min ≤ n ∧ n ≤ IntKind.u8.max := by simpa [Lit.wf] using h
  have h1 : IntKind.u8.min = 0 := by decide
  have h2 : IntKind.u8.max = 255 := by decide
  exact ⟨n.toNat, by omega, by omega⟩
theorem weights_mem_all {H : Type} (P : Program) (e : TypeId) (n : Nat) : ∀ (l : List (DataW H)) (d : DataW H), d ∈ l → n ∈ d.weights P e → n ∈ DataW.weightsAll P e l
  | [], _, h, _ => by cases h
  | x :: l, d, h, hn => by
    show _ ∈ DataW.weights P e x ++ DataW.weightsAll P e l
    rw [List.mem_append]
    rcases List.mem_cons.1 h with rfl | h
    · exact .inl hn
    · exact .inr (weights_mem_all P e n l d h hn)
set_option maxRecDepth 100000 in
theorem op6_cells {H : Type} {enc : TypeId × Value → H} {w : World} {base : Nat} {spare : Nat → Bool} {held : Bool} {fuel : Nat} {cs : List Value} {x : DataW H × List MemPlace}
    (h : DataW.trod enc Tryz.prog w base spare held fuel 32 cs = some x) : ∃ (k : Nat) (s : ByteArray) (n : Int), k < 256 ∧ cs = [.int .u8 (k : Int), .string s, .int .i64 n] ∧
      s.data.toList.length ∈ x.1.weights Tryz.prog 32 := by
  obtain ⟨xs, m, _, hx, hl, hn, hF⟩ := DataW.trod_struct Tryz.underlying32 h
  rw [show Tryz.prog.cellsOf 32 = 3 by kernel_rfl] at hl
  match cs, hl, xs, hn with
  | [c0, c1, c2], _, [x0, x1, x2], _ =>
    have g0 : DataW.trod enc Tryz.prog w base spare held m 5 (([c0, c1, c2].drop 0).take (Tryz.prog.cellsOf 5)) = some x0 := hF 0 _ rfl
    have g1 : DataW.trod enc Tryz.prog w base spare held m 9 (([c0, c1, c2].drop 1).take (Tryz.prog.cellsOf 9)) = some x1 := hF 1 _ rfl
    have g2 : DataW.trod enc Tryz.prog w base spare held m 3 (([c0, c1, c2].drop 2).take (Tryz.prog.cellsOf 3)) = some x2 := hF 2 _ rfl
    have z5 : Tryz.prog.cellsOf 5 = 1 := by kernel_rfl
    have z3 : Tryz.prog.cellsOf 3 = 1 := by kernel_rfl
    have z9 : Tryz.prog.cellsOf 9 = 1 := by kernel_rfl
    rw [z5] at g0
    rw [z9] at g1
    rw [z3] at g2
    obtain ⟨k, e0, y0, w0⟩ := DataW.trod_int Tryz.underlying5 g0
    obtain ⟨s, e1, y1, w1⟩ := DataW.trod_string Tryz.underlying9 g1
    obtain ⟨n, e2, y2, w2⟩ := DataW.trod_int Tryz.underlying3 g2
    obtain ⟨kk, hk, rfl⟩ := u8_nat w0
    simp [List.take, List.drop] at e0 e1 e2 y0 y1 y2
    subst e0 e1 e2 y0 y1 y2
    refine ⟨kk, s, n, hk, rfl, ?_⟩
    rw [hx]
    simp [DataW.weights, Tryz.underlying32, DataW.weightsEach]

/-- L operations lie at a. -/
def Ops6 (w : World) (a : Option Addr) (L : Nat) : Prop := 0 < L → ∃ cb co, a = some ⟨cb, co, none⟩ ∧ cb < w.heap.size ∧ ∀ i, i < L → ∃ (k : Nat) (s : ByteArray) (n : Int), k < 256 ∧ s.size ≤ 140737488351232 ∧
  w.cell? ⟨cb, co + i * 3, none⟩ = some (.int .u8 (k : Int)) ∧ w.cell? ⟨cb, co + i * 3 + 1, none⟩ = some (.string s) ∧ w.cell? ⟨cb, co + i * 3 + 2, none⟩ = some (.int .i64 n)
set_option maxRecDepth 100000 in
theorem ops6_open {H : Type} {enc : TypeId × Value → H} {W : World} {base : Nat} {v : Value} {d : DataW H} {p : List MemPlace} {ts : List TypeId} {ds : List (DataW H)} {j : Nat}
    (hv : Value.okWide Tryz.prog W .any base 22 v) (h : DataW.Trod enc Tryz.prog W 0 (fun _ => true) true 22 v d p)
    (hz : (DataW.weightsEach Tryz.prog ts ds).all (· ≤ reachBytes) = true) (ht : ts[j]? = some 22) (hd : ds[j]? = some d) :
    ∃ (a : Option Addr) (L cap : Nat), v = .slice a L cap ∧ Ops6 W a L ∧ L ≤ cap ∧ cap ≤ maxLen ∧ (a = none → cap = 0) := by
  obtain ⟨a0, l0, c0, rfl⟩ := okWide_slice Tryz.underlying22 hv
  obtain ⟨fuel, hf⟩ := h
  rcases Deep.open_slice Tryz.underlying22 hf with ⟨hcs, hx⟩ | ⟨a, len, cap, m, n, D, Pl, hcs, hb, hl, hm, hmm, hde, hx⟩
  · simp [Value.cells] at hcs
    obtain ⟨rfl, rfl, rfl⟩ := hcs
    exact ⟨none, 0, 0, rfl, fun h => absurd h (Nat.lt_irrefl 0), Nat.le_refl _, Nat.zero_le _, fun _ => rfl⟩
  · simp [Value.cells] at hcs
    obtain ⟨rfl, rfl, rfl⟩ := hcs
    have hde1 : d = _ := congrArg Prod.fst hde
    refine ⟨some a, l0, c0, rfl, fun h0 => ?_, hl, hm, fun e => (by cases e)⟩
    simp only [if_true] at hmm
    have z31 : Tryz.prog.cellsOf 32 = 3 := by kernel_rfl
    have each : ∀ i, i < l0 → ∃ (k : Nat) (s : ByteArray) (n : Int), k < 256 ∧ s.size ≤ 140737488351232 ∧ W.cell? (a.add (i * 3)) = some (.int .u8 (k : Int)) ∧ W.cell? (a.add (i * 3 + 1)) = some (.string s) ∧ W.cell? (a.add (i * 3 + 2)) = some (.int .i64 n) := by
      intro i hi
      obtain ⟨cs', h1, h2⟩ := hx i (by omega)
      rw [z31] at h1
      obtain ⟨_, hlen, hcell⟩ := World.cells?_some h1
      obtain ⟨k, s, n, hk, rfl, hwt⟩ := op6_cells h2
      have e0 := hcell 0 (by omega)
      have e1 := hcell 1 (by omega)
      have e2 := hcell 2 (by omega)
      rw [Deep.add_add] at e0 e1 e2
      refine ⟨k, s, n, hk, ?_, by simpa using e0, by simpa using e1, by simpa using e2⟩
      have hmem := weights_mem_all Tryz.prog 32 s.data.toList.length ((List.range l0).map D) (D i) (by simp; exact ⟨i, hi, rfl⟩) hwt
      have h3 := DataW.weights_mem_each (P := Tryz.prog) ht hd s.data.toList.length (by
        rw [hde1]
        simp only [DataW.weights, Tryz.underlying22, List.mem_cons, List.mem_append]
        exact .inr (.inl hmem))
      have h4 := List.all_eq_true.1 hz _ h3
      have h5 : s.data.toList.length ≤ reachBytes := by simpa using h4
      rw [data_len] at h5
      unfold reachBytes at h5
      omega
    obtain ⟨_, _, _, _, _, hc0, _⟩ := each 0 h0
    rw [Nat.zero_mul] at hc0
    obtain ⟨blk, off, spot⟩ := a
    have hspot : spot = none := by simpa [Addr.add] using World.cell?_spot hc0
    subst hspot
    refine ⟨blk, off, rfl, by simpa [Addr.add] using World.block_lt_of_cell? W _ hc0, fun i hi => ?_⟩
    obtain ⟨k, s, n, hk, hs, e0, e1, e2⟩ := each i hi
    have hadd : ∀ j, (⟨blk, off, none⟩ : Addr).add j = ⟨blk, off + j, none⟩ := fun j => by
      unfold Addr.add
      split
      · next h => subst h; rfl
      · rfl
    rw [hadd] at e0 e1 e2
    exact ⟨k, s, n, hk, hs, e0, by rw [Nat.add_assoc]; exact e1, by rw [Nat.add_assoc]; exact e2⟩
end Go.Proofs.YtbnmdieadaeeiaaGreatDoor

namespace Go.Proofs.YtbnmdieadaeeiaaGreatDoor
open Go Go.RowKit

structure Two (w0 w : World) (bk bw : Nat) (s : ByteArray) (h u v : Nat) : Prop where
  key : ∃ O, KeyAt w bk O s h u
  ref : QKey w bw s h v
  le : u ≤ 2 ^ h
  lev : v ≤ 2 ^ h
  kis : KIs w
  bel : Below w0.heap.size w0 w
  lowk : w0.heap.size ≤ bk
  loww : w0.heap.size ≤ bw
theorem Two.below {w0 w w' : World} {bk bw : Nat} {s : ByteArray} {h u v : Nat} (t : Two w0 w bk bw s h u v) (hb : Below w.heap.size w w') : Two w0 w' bk bw s h u v := by
  obtain ⟨O, k⟩ := t.key
  exact ⟨⟨O, k.here hb⟩, t.ref.here hb, t.le, t.lev, t.kis.below hb t.kis.lt, mono_bel t.bel hb (Nat.le_refl _), t.lowk, t.loww⟩
theorem Two.setK {w0 w w' : World} {bk bw : Nat} {s : ByteArray} {h u v u' : Nat} {O : Option Nat} (t : Two w0 w bk bw s h u v) (k : KeyAt w' bk O s h u') (hu : u' ≤ 2 ^ h) (hc : Pk.Chg (fun i => i = bk) w w') : Two w0 w' bk bw s h u' v := by
  obtain ⟨O1, k1⟩ := t.key
  refine ⟨⟨O, k⟩, t.ref.keep hc fun i ty hi hS hty => ?_, hu, t.lev, k1.kis t.kis hc, t.bel.trans (hc.below t.bel.size fun i hi => by have := t.lowk; omega), t.lowk, t.loww⟩
  obtain rfl : i = bk := hS
  obtain rfl := hty.inj k1.blk.ty
  decide
theorem Two.setR {w0 w w' : World} {bk bw : Nat} {s : ByteArray} {h u v v' : Nat} (t : Two w0 w bk bw s h u v) (k : QKey w' bw s h v') (hv : v' ≤ 2 ^ h) (hc : Pk.Chg (fun i => i = bw) w w') : Two w0 w' bk bw s h u v' := by
  obtain ⟨O, k1⟩ := t.key
  obtain ⟨x, hb⟩ := t.ref.blk
  refine ⟨⟨O, k1.chg hc (fun e => ?_) fun g e => fun e2 => ?_⟩, k, t.le, hv, t.kis.chg hc fun e => t.kis.blk_ne hb e.symm, t.bel.trans (hc.below t.bel.size fun i hi => by have := t.loww; omega), t.lowk, t.loww⟩
  · have e1 : bk = bw := e
    have h1 := k1.blk.ty
    rw [e1] at h1
    exact absurd (h1.inj hb.ty) (by decide)
  · have e1 : g = bw := e2
    have h1 := (k1.tree g e).2.ty
    rw [e1] at h1
    exact absurd (h1.inj hb.ty) (by decide)
theorem skipN_le (u : Nat) (n : Int) (h : Nat) (hu : u ≤ 2 ^ h) : skipN u n h ≤ 2 ^ h := by unfold skipN; omega
theorem two_skip (w0 w : World) (bk bw : Nat) (s : ByteArray) (h u v : Nat) (n : Int) (t : Two w0 w bk bw s h u v) :
    Calls Tryz.prog 12 #[.pointer (some ⟨bk, 0, none⟩), .int .i64 n] w fun e w' => e = .returned (.tuple #[]) ∧ Two w0 w' bk bw s h (skipN u n h) v ∧ Pk.Chg (fun i => i = bk ∨ i = bw) w w' := by
  obtain ⟨O, k⟩ := t.key
  refine (skip_any bk O s h u n w k).mono ?_
  rintro e w' ⟨rfl, k2, hc⟩
  exact ⟨rfl, t.setK k2 (skipN_le u n h t.le) hc, hc.mono fun i _ h => .inl h⟩
theorem two_rskip (w0 w : World) (bk bw : Nat) (s : ByteArray) (h u v : Nat) (n : Int) (t : Two w0 w bk bw s h u v) :
    Calls Tryz.prog 13 #[.pointer (some ⟨bw, 0, none⟩), .int .i64 n] w fun e w' => e = .returned (.tuple #[]) ∧ Two w0 w' bk bw s h u (skipN v n h) ∧ Pk.Chg (fun i => i = bk ∨ i = bw) w w' := by
  refine (r6skip_any bw s h v n w t.ref).mono ?_
  rintro e w' ⟨rfl, k2, hc⟩
  exact ⟨rfl, t.setR k2 (skipN_le v n h t.lev) hc, hc.mono fun i _ h => .inr h⟩
theorem two_used (w0 w : World) (bk bw : Nat) (s : ByteArray) (h u v : Nat) (t : Two w0 w bk bw s h u v) :
    Calls Tryz.prog 19 #[.pointer (some ⟨bk, 0, none⟩)] w fun e w' => e = .returned (.int .i64 (u : Int)) ∧ w' = w := by
  obtain ⟨O, k⟩ := t.key
  exact used_any bk O s h u w k
theorem two_left (w0 w : World) (bk bw : Nat) (s : ByteArray) (h u v : Nat) (t : Two w0 w bk bw s h u v) :
    Calls Tryz.prog 20 #[.pointer (some ⟨bk, 0, none⟩)] w fun e w' => e = .returned (.int .i64 ((2 ^ h - u : Nat) : Int)) ∧ w' = w := by
  obtain ⟨O, k⟩ := t.key
  exact left_any bk O s h u w k t.le
theorem two_rleft (w0 w : World) (bk bw : Nat) (s : ByteArray) (h u v : Nat) (t : Two w0 w bk bw s h u v) :
    Calls Tryz.prog 21 #[.pointer (some ⟨bw, 0, none⟩)] w fun e w' => e = .returned (.int .i64 ((2 ^ h - v : Nat) : Int)) ∧ Two w0 w' bk bw s h u v ∧ Pk.Chg (fun i => i = bk ∨ i = bw) w w' := by
  refine (r6left_any bw s h v w t.ref t.lev).mono ?_
  rintro e w' ⟨rfl, hb⟩
  exact ⟨rfl, t.below hb, chg0 hb⟩
theorem two_id (w0 w : World) (bk bw : Nat) (s : ByteArray) (h u v : Nat) (t : Two w0 w bk bw s h u v) (hs : s.size ≤ 140737488351232) :
    Calls Tryz.prog 22 #[.pointer (some ⟨bk, 0, none⟩)] w fun e w' => e = .returned (.string (keyID s h)) ∧ Two w0 w' bk bw s h u v ∧ Pk.Chg (fun i => i = bk ∨ i = bw) w w' := by
  obtain ⟨O, k⟩ := t.key
  refine (id_key bk O s h u w k t.kis (by omega)).mono ?_
  rintro e w' ⟨rfl, g⟩
  obtain ⟨O2, k2, _⟩ := g.ex
  exact ⟨rfl, t.setK k2 t.le g.chg, g.chg.mono fun i _ h => .inl h⟩
theorem two_rid (w0 w : World) (bk bw : Nat) (s : ByteArray) (h u v : Nat) (t : Two w0 w bk bw s h u v) :
    Calls Tryz.prog 15 #[.pointer (some ⟨bw, 0, none⟩)] w fun e w' => e = .returned (.string (keyID s h)) ∧ Two w0 w' bk bw s h u v ∧ Pk.Chg (fun i => i = bk ∨ i = bw) w w' := by
  refine (r6ID_any bw s h v w t.ref).mono ?_
  rintro e w' ⟨rfl, hb⟩
  exact ⟨rfl, t.below hb, chg0 hb⟩
theorem two_verify (w0 w : World) (bk bw : Nat) (s i x q : ByteArray) (h u v : Nat) (t : Two w0 w bk bw s h u v) (hx : x.size ≤ 140737488351232) :
    Calls Tryz.prog 14 #[.string i, .string x, .string q] w fun e w' => e = .returned (.int .i64 (verE i x q)) ∧ Two w0 w' bk bw s h u v ∧ Pk.Chg (fun i => i = bk ∨ i = bw) w w' := by
  refine (verify_any i x q w t.kis (by omega)).mono ?_
  rintro e w' ⟨rfl, hb⟩
  exact ⟨rfl, t.below hb, chg0 hb⟩
theorem two_rverify (w0 w : World) (bk bw : Nat) (s i x q : ByteArray) (h u v : Nat) (t : Two w0 w bk bw s h u v) (hx : x.size ≤ 140737488351232) :
    Calls Tryz.prog 16 #[.string i, .string x, .string q] w fun e w' => e = .returned (.int .i64 (verE i x q)) ∧ Two w0 w' bk bw s h u v ∧ Pk.Chg (fun i => i = bk ∨ i = bw) w w' := by
  refine (r6verify_any i x q w hx).mono ?_
  rintro e w' ⟨rfl, hb⟩
  exact ⟨rfl, t.below hb, chg0 hb⟩
/-- What Sign answers, and how many are used then. -/
def signV (s : ByteArray) (h u : Nat) (x : ByteArray) : Value := if u < 2 ^ h then .tuple #[.string (keyS s h u x), .int .i64 0] else .tuple #[.string ⟨#[]⟩, .int .i64 8]
def signU (h u : Nat) : Nat := if u < 2 ^ h then u + 1 else u
theorem signU_le (h u : Nat) (hu : u ≤ 2 ^ h) : signU h u ≤ 2 ^ h := by unfold signU; split <;> omega
theorem two_sign (w0 w : World) (bk bw : Nat) (s x : ByteArray) (h u v : Nat) (t : Two w0 w bk bw s h u v) (hs : s.size ≤ 140737488351232) (hx : x.size ≤ 140737488351232) :
    Calls Tryz.prog 17 #[.pointer (some ⟨bk, 0, none⟩), .string x] w fun e w' => e = .returned (signV s h u x) ∧ Two w0 w' bk bw s h (signU h u) v ∧ Pk.Chg (fun i => i = bk ∨ i = bw) w w' := by
  obtain ⟨O, k⟩ := t.key
  by_cases hu : u < 2 ^ h
  · rw [signV, signU, if_pos hu, if_pos hu]
    refine (sign_key bk O s x h u w k t.kis (by omega) (by omega) hu).mono ?_
    rintro e w' ⟨rfl, g⟩
    obtain ⟨O2, k2, _⟩ := g.ex
    exact ⟨rfl, t.setK k2 hu g.chg, g.chg.mono fun i _ h => .inl h⟩
  · rw [signV, signU, if_neg hu, if_neg hu]
    obtain rfl : u = 2 ^ h := by have := t.le; omega
    refine (sign_spent bk O s x h w k).mono ?_
    rintro e w' ⟨rfl, rfl⟩
    exact ⟨rfl, t, Pk.Chg.refl _ _⟩
theorem two_rsign (w0 w : World) (bk bw : Nat) (s x : ByteArray) (h u v : Nat) (t : Two w0 w bk bw s h u v) (hs : s.size ≤ 140737488351232) (hx : x.size ≤ 140737488351232) :
    Calls Tryz.prog 18 #[.pointer (some ⟨bw, 0, none⟩), .string x] w fun e w' => e = .returned (signV s h v x) ∧ Two w0 w' bk bw s h u (signU h v) ∧ Pk.Chg (fun i => i = bk ∨ i = bw) w w' := by
  by_cases hu : v < 2 ^ h
  · rw [signV, signU, if_pos hu, if_pos hu]
    refine (r6sign_key bw s x h v w t.ref hu hs hx).mono ?_
    rintro e w' ⟨rfl, k, hc⟩
    exact ⟨rfl, t.setR k hu hc, hc.mono fun i _ h => .inr h⟩
  · rw [signV, signU, if_neg hu, if_neg hu]
    obtain rfl : v = 2 ^ h := by have := t.lev; omega
    refine (r6sign_spent bw s x h w t.ref).mono ?_
    rintro e w' ⟨rfl, hb⟩
    exact ⟨rfl, t.below hb, chg0 hb⟩
/-- .. and an operation in a block of its own. -/
structure Thr (w0 w : World) (bk bw : Nat) (s : ByteArray) (h u v bo : Nat) (cs : List Value) : Prop where
  two : Two w0 w bk bw s h u v
  blk : Blk w bo cs 32
  nk : bo ≠ bk
  nw : bo ≠ bw
theorem Two.with_ {w0 w : World} {bk bw : Nat} {s : ByteArray} {h u v : Nat} (t : Two w0 w bk bw s h u v) (cs : List Value) : Thr w0 (w.alloc (.cells cs.toArray 32)) bk bw s h u v w.heap.size cs := by
  obtain ⟨O, k⟩ := t.key
  have h1 := k.lt
  have h2 := t.ref.lt
  exact ⟨t.below ((Below.refl _ _).alloc (Nat.le_refl _) _), Blk.new w cs _, by omega, by omega⟩
theorem Thr.to {w0 w : World} {bk bw : Nat} {s : ByteArray} {h u v bo u' v' : Nat} {cs : List Value} (t : Thr w0 w bk bw s h u v bo cs) {f : FuncId} {args : Array Value} {E : Ending → Prop}
    (hC : Calls Tryz.prog f args w fun e w' => E e ∧ Two w0 w' bk bw s h u' v' ∧ Pk.Chg (fun i => i = bk ∨ i = bw) w w') : Calls Tryz.prog f args w fun e w' => E e ∧ Thr w0 w' bk bw s h u' v' bo cs := by
  refine hC.mono ?_
  rintro e w' ⟨he, t2, hc⟩
  exact ⟨he, t2, hc.blk t.blk (by have := t.nk; have := t.nw; omega), t.nk, t.nw⟩
theorem Thr.drew {w0 w : World} {bk bw : Nat} {s : ByteArray} {h u v bo : Nat} {cs : List Value} (t : Thr w0 w bk bw s h u v bo cs) : Thr w0 w.drew bk bw s h u v bo cs :=
  ⟨t.two.below (dB w), t.blk, t.nk, t.nw⟩
theorem Two.cell3 {w0 w : World} {bk bw : Nat} {s : ByteArray} {h u v : Nat} (t : Two w0 w bk bw s h u v) : w.cell? ⟨bw, 3, none⟩ = some (.int .i64 (v : Int)) := by
  obtain ⟨x, hb⟩ := t.ref.blk
  exact hb.cell 3
theorem Two.drew_cell3 {w0 w : World} {bk bw : Nat} {s : ByteArray} {h u v : Nat} (t : Two w0 w bk bw s h u v) : w.drew.cell? ⟨bw, 3, none⟩ = some (.int .i64 (v : Int)) := t.cell3
end Go.Proofs.YtbnmdieadaeeiaaGreatDoor

namespace Go.Proofs.YtbnmdieadaeeiaaGreatDoor
open Go

section
variable {P : Program} {ops : Array Oper} {C : World → Prop} {Q : Act → Prop} {a : Act} {o : Oper} {rest : List Oper}
/-- A call: one value, and a world of the class behind. -/
theorem quiet_call (hw : Region.wanted o (yielded ops a.tmps) = true) {f : FuncId} {args : Array Value} (v : Value)
    (hc : ∀ w, C w → Calls P f args w fun e w' => e = .returned v ∧ C w') (hr : ∀ w, C w → (execOp a.eval o).run P w = .ok (.enter f args) w) (h : wpQuiet P ops C Q rest (a.put o.dst v)) : wpQuiet P ops C Q (o :: rest) a := by
  unfold wpQuiet
  simp only [hw, if_true]
  refine ⟨v, fun w hC => ?_, h⟩
  unfold Oper.quietAt
  rw [hr w hC]
  exact ⟨rfl, hc w hC⟩
/-- Any other operation that hands back one value in every world of the class. -/
theorem quiet_val (hw : Region.wanted o (yielded ops a.tmps) = true) (v : Value)
    (hv : ∀ w, C w → (execOp a.eval o).run P w = .ok (.value v) w) (h : wpQuiet P ops C Q rest (a.put o.dst v)) : wpQuiet P ops C Q (o :: rest) a := by
  unfold wpQuiet
  simp only [hw, if_true]
  refine ⟨v, fun w hC => ?_, h⟩
  unfold Oper.quietAt
  simp [hv w hC, Oper.quietUpon]
end
/-- The region, its operations written out. -/
theorem region_quiet {P : Program} (C : World → Prop) {id : Nat} {Q : Exit → Act → World → Prop} {a : Act} {w : World} {l : List Oper} (hm : P.follows .mixedOrders = true) (hB : Region.lexB .any l.toArray = true) (hC : C w.drew)
    (h : wpQuiet P l.toArray C (fun a' => ∀ w', C w' → Q .normal a' w') l a) : (Code.region id l.toArray true).wp P Q a w :=
  wp_region_quiet (C := C) hm hB hC (by simpa using h)
end Go.Proofs.YtbnmdieadaeeiaaGreatDoor
