/- Walk of sha.Hex. | Plain facts on hex, read back; and the law for an append to a row of bytes that the call owns. -/
import Derived.Test.YthkfefkcjcgfkaaGreatDoorWa2
import Derived.Test.YthkfefkcjcgfkaaGreatDoorWa8
import Derived.Test.YthkfefkcjcgfkaaGreatDoorWa5
set_option linter.all false
namespace Go.Proofs.YthkfefkcjcgfkaaGreatDoor
open Go.RowKit

def digit (n : Nat) : UInt8 := if n < 10 then UInt8.ofNat (48 + n) else UInt8.ofNat (87 + n)
def hexB (x : UInt8) : List UInt8 := [digit (x.toNat / 16), digit (x.toNat % 16)]
def hexL (l : List UInt8) : List UInt8 := l.flatMap hexB
def hexLit : ByteArray := { data := #[48, 49, 50, 51, 52, 53, 54, 55, 56, 57, 97, 98, 99, 100, 101, 102] }
theorem hexLit_get (n : Nat) (h : n < hexLit.size) : hexLit[n] = digit n := by
  have : ∀ n : Fin 16, hexLit[n.val]'(n.isLt) = digit n.val := by decide
  exact this ⟨n, h⟩
theorem get_take (s : ByteArray) (i : Nat) (h : i < s.size) : s.data.toList.take (i + 1) = s.data.toList.take i ++ [s[i]] := by
  rw [List.take_succ_eq_append_getElem (by simpa using h)]; rfl
theorem hexL_snoc (l : List UInt8) (x d1 d2 : UInt8) (h1 : digit (x.toNat / 16) = d1) (h2 : digit (x.toNat % 16) = d2) : (hexL (l ++ [x])).map yc = (hexL l).map yc ++ [Value.int .u8 (d1.toNat : Int), Value.int .u8 (d2.toNat : Int)] := by
  subst h1 h2
  simp [hexL, hexB, List.flatMap_append, yc, Y]
theorem hexL_length (l : List UInt8) : (hexL l).length = 2 * l.length := by
  induction l with
  | nil => rfl
  | cons x l ih =>
    show (hexB x ++ hexL l).length = _
    rw [List.length_append, ih]; simp [hexB]; omega
/-- A row of bytes that the call owns, as a text. -/
theorem own_text {w : World} {base : Nat} {v : Value} {l : List UInt8} (h : w.ownsRow base 5 1 v l.length (l.map yc)) :
    (convert 63 9 v).run Tryz.prog w = .ok (.string ⟨l.toArray⟩) w := by
  obtain ⟨hl, ⟨rfl, hx⟩ | ⟨g, cap, cur, rfl, hg, hh, hn, _, hsz, hcur⟩⟩ := h
  · have hl0 : l = [] := by simpa using hx
    subst hl0
    exact run_convert_bytes_nil (P := Tryz.prog) w 63 5 Tryz.underlying63 Tryz.underlying5 _ _ 9 Tryz.underlying9
  · have hlen : cur.toList.length = cap := by rw [Array.length_toList, hsz]; omega
    have hc : ∀ i, i < l.length → w.cell? ⟨g, 0 + i, none⟩ = some (.int .u8 ((l.map Y).getD i 0)) := by
      intro i hi
      have h1 : (cur.toList.take (l.length * 1))[i]? = (l.map yc)[i]? := by rw [hcur]
      rw [List.getElem?_take_of_lt (by omega), List.getElem?_map] at h1
      rw [Nat.zero_add, cell_of_row w g i cur _ _ hh, ← Array.getElem?_toList, h1]
      simp [hi, yc, List.getD]
    have := run_convert_bytes_arg (P := Tryz.prog) w 63 5 Tryz.underlying63 Tryz.underlying5 g 0 l.length cap (l.map Y) (by simp) hc 9 Tryz.underlying9
    rw [Y_back] at this; exact this
theorem info5 : (Tryz.prog.info? 5).map (fun i => (i.zero, i.size, i.bytes)) = some (some (.int .u8 0), 1, 1) := by kernel_rfl

set_option maxHeartbeats 800000 in
set_option maxRecDepth 100000 in
theorem hex_any (s : ByteArray) (w : World) (hs : s.size ≤ 35184372088832) :
    Calls Tryz.prog 21 #[.string s] w fun e w' => e = .returned (.string ⟨(hexL s.data.toList).toArray⟩) ∧ Below w.heap.size w w' := by
  obtain ⟨i0, hi, hz0, hz1, hz2⟩ := info_parts info5
  have e1 : Box ((2 : Int) * (s.size : Int) = ((2 * s.size : Nat) : Int)) := ⟨by omega⟩
  have e2 : Box (i0.bytes * (2 * s.size) ≤ 281474976710656) := ⟨by rw [hz2]; omega⟩
  have e3 : Box (2 * s.size ≤ maxLen) := ⟨by unfold maxLen; omega⟩
  have HI := Box.mk hi
  have H0 := Box.mk hz0
  have H1 := Box.mk hz1
  have H2 := Box.mk hz2
  clear hi hz0 hz1 hz2
  go_enter Tryz.func21, Tryz.ntmps21
  go_wp2_with (refine wpList_make_own _ rfl (.const (.int .i64 0)) (.tmp 7) 63 rfl w.heap.size 5 i0 (.int .u8 0) 1 Tryz.underlying63 HI.out H0.out H1.out .i64 .i64 _ (2 * s.size) rfl rfl e1.out e2.out e3.out (Nat.le_refl _) ?_; intro w1 hO1 hG1; have hO1' := Box.mk hO1; have hB1 := Box.mk ((Below.refl w.heap.size w).grown hG1 (Nat.le_refl _) (by intro k hk; cases hk)); clear hO1 hG1)
  go_loopw [3, 4, 11] (fun s3 _ q wr => ∃ i : Nat, i ≤ s.size ∧ q = .int .i64 i ∧ Box (wr.ownsRow w.heap.size 5 1 s3 (2 * i) ((hexL (s.data.toList.take i)).map yc)) ∧ Box (Below w.heap.size w wr)) (fun _ _ q _ => s.size - (intOf q).toNat)
  case atStart => exact ⟨0, by omega, rfl, hO1', hB1⟩
  case round =>
    clear hO1' hB1
    obtain ⟨i, hi, rfl, hO, hB⟩ := hrel
    by_cases hlt : i < s.size
    · obtain ⟨x, hx⟩ : ∃ x, s[i] = x := ⟨_, rfl⟩
      have hxl := x.toNat_lt
      have b1 : (0 : Int) ≤ (x.toNat : Int) / 16 ∧ (x.toNat : Int) / 16 < 16 := by omega
      have b2 : (0 : Int) ≤ (x.toNat : Int) % 16 ∧ (x.toNat : Int) % 16 < 16 := by omega
      have b3 : bits .and .u8 (x.toNat : Int) 15 = (x.toNat : Int) % 16 := u8_and15 _ (by omega) (by omega)
      go_wp2_with fail
      refine region_calm_tail (C := fun _ => True) 11 (by kernel_rfl) (by kernel_rfl) (by kernel_rfl) True.intro ?_
      simp only [List.take_succ_cons, List.take_zero, List.drop_succ_cons, List.drop_zero]
      repeat (go_big_quiet_step (first | exact fun _ => rfl | rfl))
      refine wpQuiet_nil ?_
      have g1 : ∀ h, ({ data := #[48, 49, 50, 51, 52, 53, 54, 55, 56, 57, 97, 98, 99, 100, 101, 102] } : ByteArray)[x.toNat / 16]'h = digit (x.toNat / 16) := fun h => hexLit_get _ h
      have g2 : ∀ h, ({ data := #[48, 49, 50, 51, 52, 53, 54, 55, 56, 57, 97, 98, 99, 100, 101, 102] } : ByteArray)[x.toNat % 16]'h = digit (x.toNat % 16) := fun h => hexLit_get _ h
      simp only [g1, g2]
      clear g1 g2
      obtain ⟨d1, hd1⟩ : ∃ d, digit (x.toNat / 16) = d := ⟨_, rfl⟩
      obtain ⟨d2, hd2⟩ : ∃ d, digit (x.toNat % 16) = d := ⟨_, rfl⟩
      simp only [hd1, hd2]
      replace hd1 := Box.mk hd1
      replace hd2 := Box.mk hd2
      replace hx := Box.mk hx
      clear b1 b2 b3
      refine chain_step rfl (fun K hK => ?_)
      go_simp
      refine hK _ _ True.intro ?_
      clear hK K
      refine chain_step rfl (fun K hK => ?_)
      have hO2 : (wr.alloc (.cells #[Value.int IntKind.u8 ↑d1.toNat, Value.int IntKind.u8 ↑d2.toNat] 5)).drew.ownsRow w.heap.size 5 1 u3 (2 * i) ((hexL (s.data.toList.take i)).map yc) := hO.out.alloc _
      have c1 : ∀ j u, [Value.int IntKind.u8 (d1.toNat : Int), Value.int IntKind.u8 (d2.toNat : Int)][j]? = some u → (wr.alloc (.cells #[Value.int IntKind.u8 (d1.toNat : Int), Value.int IntKind.u8 (d2.toNat : Int)] 5)).drew.cell? ((⟨wr.heap.size, 0, none⟩ : Addr).add j) = some u := by
        intro j u hj
        have hadd : (⟨wr.heap.size, 0, none⟩ : Addr).add j = ⟨wr.heap.size, j, none⟩ := by unfold Addr.add; split <;> simp_all
        rw [hadd]
        show (wr.alloc _).cell? _ = _
        rw [World.cell?_alloc_at _ _ _ _ rfl]
        simpa using hj
      have c2 : ∀ u ∈ [Value.int IntKind.u8 (d1.toNat : Int), Value.int IntKind.u8 (d2.toNat : Int)], u.oneCell' = true := by
        intro u hu; simp at hu; obtain rfl | rfl := hu <;> rfl
      have c3 : 2 * i + 2 ≤ maxLen := by unfold maxLen; omega
      have c4 : (2 * i + 2) * 1 ≤ 140737488355328 := by omega
      have c5 : w.heap.size ≤ (wr.alloc (.cells #[Value.int IntKind.u8 ↑d1.toNat, Value.int IntKind.u8 ↑d2.toNat] 5)).drew.heap.size := by
        have := hB.out.size
        show _ ≤ (wr.alloc _).heap.size
        simp; omega
      refine wp_append_own _ (.tmp 14) (.tmp 25) 63 rfl w.heap.size 5 i0 (.int .u8 0) 1 1 Tryz.underlying63 HI.out H0.out H1.out H2.out rfl (by decide) _ (2 * i) _ rfl hO2 ⟨wr.heap.size, 0, none⟩ 2 2 [Value.int IntKind.u8 ↑d1.toNat, Value.int IntKind.u8 ↑d2.toNat] rfl rfl c1 c2 c3 c4 c5 ?_
      intro v2 w2 hO3 hG3 _
      refine hK _ _ True.intro ?_
      clear hK K c1 c2 c3 c4 c5
      refine chain_step rfl (fun K hK => ?_)
      go_simp
      refine hK _ _ True.intro ?_
      clear hK K
      refine chain_nil ?_
      have hB3 : Box (Below w.heap.size w w2) := by
        have h1 := (hB.out.alloc hB.out.size (.cells #[Value.int IntKind.u8 ↑d1.toNat, Value.int IntKind.u8 ↑d2.toNat] 5)).drew
        refine ⟨h1.grown hG3 ?_ ?_⟩
        · have := hB.out.size
          show _ ≤ (wr.alloc _).heap.size
          simp; omega
        · intro k hk; exact (hO.out.lt k hk).1
      replace hO3 := Box.mk hO3
      clear hG3 hO2
      go_wp2_with fail
      have hm : s.size - (intOf (Value.int IntKind.i64 (↑i + 1))).toNat < s.size - (intOf (Value.int IntKind.i64 ↑i)).toNat := by simp [intOf]; omega
      refine ⟨⟨i + 1, by omega, by go_num, ⟨?_⟩, hB3⟩, hm⟩
      rw [get_take s i hlt, hx.out, hexL_snoc _ _ _ _ hd1.out hd2.out, show 2 * (i + 1) = 2 * i + 2 by omega]
      exact hO3.out
    · obtain rfl : i = s.size := by omega
      have ht : s.data.toList.take s.size = s.data.toList := List.take_of_length_le (by rw [data_len]; omega)
      have hO' := hO.out
      rw [ht] at hO'
      have hl : (hexL s.data.toList).length = 2 * s.size := by rw [hexL_length, data_len]
      rw [← hl] at hO'
      have hcv := own_text hO'
      clear hO hO' hl ht
      go_wp2_with fail
      go_returns
      exact ⟨rfl, hB.out⟩
end Go.Proofs.YthkfefkcjcgfkaaGreatDoor

namespace Go.Proofs.YthkfefkcjcgfkaaGreatDoor
open Go.RowKit

/-- What a digit stands for; whether it is one. -/
def hvN (x : UInt8) : Nat := if 48 ≤ x.toNat ∧ x.toNat ≤ 57 then x.toNat - 48 else if 97 ≤ x.toNat ∧ x.toNat ≤ 102 then x.toNat - 87 else 0
def hvB (x : UInt8) : Bool := decide ((48 ≤ x.toNat ∧ x.toNat ≤ 57) ∨ (97 ≤ x.toNat ∧ x.toNat ≤ 102))
theorem hvN_lt (x : UInt8) : hvN x < 16 := by
  unfold hvN; split
  · omega
  · split <;> omega
def pairB (a b : UInt8) : UInt8 := UInt8.ofNat (16 * hvN a + hvN b)
theorem pair_nat (a b : UInt8) : (pairB a b).toNat = 16 * hvN a + hvN b := by
  have h1 := hvN_lt a; have h2 := hvN_lt b
  unfold pairB
  rw [UInt8.toNat_ofNat']; omega
theorem pair_or (a b : UInt8) : bits .or .u8 ((hvN a : Int) * 16) (hvN b : Int) = ((pairB a b).toNat : Int) := by
  have h : ∀ x y : Fin 16, bits .or .u8 ((x.val : Int) * 16) (y.val : Int) = ((16 * x.val + y.val : Nat) : Int) := by decide +kernel
  rw [pair_nat]
  exact h ⟨hvN a, hvN_lt a⟩ ⟨hvN b, hvN_lt b⟩
def unhexL : List UInt8 → Option (List UInt8)
  | [] => some []
  | [_] => none
  | a :: b :: r => if hvB a && hvB b then (unhexL r).map (pairB a b :: ·) else none
theorem unhexL_app : ∀ (k : Nat) (p q : List UInt8), p.length = 2 * k → unhexL (p ++ q) = (unhexL p).bind fun o => (unhexL q).map (o ++ ·)
  | 0, p, q, h => by
    obtain rfl : p = [] := List.length_eq_zero_iff.1 (by omega)
    simp [unhexL]
  | k + 1, p, q, h => by
    match p, h with
    | a :: b :: r, h =>
      have hr : r.length = 2 * k := by simp at h; omega
      simp only [List.cons_append, unhexL]
      rw [unhexL_app k r q hr]
      by_cases hb : (hvB a && hvB b) = true
      · simp only [hb, if_true]
        cases unhexL r with
        | none => rfl
        | some o => cases unhexL q <;> simp
      · simp [hb]
theorem unhexL_odd : ∀ (k : Nat) (p : List UInt8), p.length = 2 * k + 1 → unhexL p = none
  | 0, p, h => by
    match p, h with
    | [a], _ => rfl
  | k + 1, p, h => by
    match p, h with
    | a :: b :: r, h =>
      simp only [unhexL]
      rw [unhexL_odd k r (by simp at h; omega)]
      simp
theorem unhexL_length : ∀ (k : Nat) (p o : List UInt8), p.length = 2 * k → unhexL p = some o → o.length = k
  | 0, p, o, h, ho => by
    obtain rfl : p = [] := List.length_eq_zero_iff.1 (by omega)
    simp [unhexL] at ho; subst ho; rfl
  | k + 1, p, o, h, ho => by
    match p, h with
    | a :: b :: r, h =>
      simp only [unhexL] at ho
      split at ho
      · cases hr : unhexL r with
        | none => rw [hr] at ho; simp at ho
        | some o' =>
          rw [hr] at ho
          simp at ho
          subst ho
          have := unhexL_length k r o' (by simp at h; omega) hr
          simp [this]
      · cases ho
theorem take_two (s : ByteArray) (k : Nat) (h : 2 * k + 1 < s.size) : s.data.toList.take (2 * (k + 1)) = s.data.toList.take (2 * k) ++ [s[2 * k], s[2 * k + 1]] := by
  rw [show 2 * (k + 1) = 2 * k + 1 + 1 by omega, get_take s (2 * k + 1) h, get_take s (2 * k) (by omega), List.append_assoc]; rfl
/-- One more pair. -/
theorem unhex_step (s : ByteArray) (k : Nat) (o : List UInt8) (h : 2 * k + 1 < s.size) (ho : unhexL (s.data.toList.take (2 * k)) = some o) (h1 : hvB s[2 * k] = true) (h2 : hvB s[2 * k + 1] = true) :
    unhexL (s.data.toList.take (2 * (k + 1))) = some (o ++ [pairB s[2 * k] s[2 * k + 1]]) := by
  rw [take_two s k h, unhexL_app k _ _ (by rw [List.length_take, data_len]; omega), ho]
  simp [unhexL, h1, h2]
theorem unhex_bad (s : ByteArray) (k : Nat) (o : List UInt8) (h : 2 * k + 1 < s.size) (ho : unhexL (s.data.toList.take (2 * k)) = some o) (hb : (hvB s[2 * k] && hvB s[2 * k + 1]) = false) :
    unhexL s.data.toList = none := by
  conv => lhs; rw [← List.take_append_drop (2 * (k + 1)) s.data.toList]
  rw [unhexL_app (k + 1) _ _ (by rw [List.length_take, data_len]; omega), take_two s k h, unhexL_app k _ _ (by rw [List.length_take, data_len]; omega), ho]
  simp only [unhexL, hb]; rfl
/-- The text and the flag that come out. -/
def unT (l : List UInt8) : ByteArray := ⟨((unhexL l).getD []).toArray⟩
def unB (l : List UInt8) : Bool := (unhexL l).isSome

/-- Append of some bytes, lying in a row of their own, to a row of bytes that the call owns. -/
theorem wpList_push {w w0 : World} {ops : Array Oper} {rest : List Oper} {o : Oper} {a : Act} {Q : Exit → Act → World → Prop} (hgd : o.guard = none) (s x : Operand)
    (ho : o.op = .call { callee := .builtin .append, args := #[s, x], argTypes := #[63, 63] }) (base : Nat) (v : Value) (l : List UInt8) (hs : a.eval s = v)
    (hO : Box (w.ownsRow base 5 1 v l.length (l.map yc))) (g : Nat) (news : List UInt8) (hx : a.eval x = .slice (some ⟨g, 0, none⟩) news.length news.length)
    (hn : ∀ j, j < news.length → w.cell? ⟨g, j, none⟩ = (news.map yc)[j]?) (hlen : l.length + news.length ≤ 70368744177664) (hbase : base ≤ w.heap.size) (hB : Box (Below base w0 w))
    (h : ∀ v' w', Box (w'.ownsRow base 5 1 v' (l ++ news).length ((l ++ news).map yc)) → Box (Below base w0 w') → wpList Tryz.prog ops Q rest (a.put o.dst v') w') : wpList Tryz.prog ops Q (o :: rest) a w := by
  obtain ⟨i0, hi, hz0, hz1, hz2⟩ := info_parts info5
  refine wpList_append_own _ hgd s x 63 ho base 5 i0 (.int .u8 0) 1 1 Tryz.underlying63 hi hz0 hz1 hz2 rfl (by decide) v l.length _ hs hO.out ⟨g, 0, none⟩ news.length news.length (news.map yc) hx (by simp)
    (fun j u hj => ?_) (fun u hu => ?_) (by unfold maxLen; omega) (by omega) hbase ?_
  · have hadd : (⟨g, 0, none⟩ : Addr).add j = ⟨g, j, none⟩ := by unfold Addr.add; split <;> simp_all
    have hjl : j < news.length := by
      rcases Nat.lt_or_ge j news.length with h | h
      · exact h
      · rw [List.getElem?_eq_none (by simpa using h)] at hj; cases hj
    rw [hadd, hn j hjl]; exact hj
  · simp only [List.mem_map] at hu; obtain ⟨y, _, rfl⟩ := hu; rfl
  · intro v' w' h2 h3 _
    refine h v' w' ⟨?_⟩ ⟨hB.out.grown h3 hbase (fun k hk => (hO.out.lt k hk).1)⟩
    rw [List.length_append, List.map_append]; exact h2
end Go.Proofs.YthkfefkcjcgfkaaGreatDoor
