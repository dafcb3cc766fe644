/- Walks of the document's number, words and hash. -/
import Derived.Test.YtdnhpldcnmbncaaDoorRefA
import Derived.Test.YtdnhpldcnmbncaaDoorHexC
namespace Go.Proofs.YtdnhpldcnmbncaaDoor
open Go.RowKit

/-- A number's last i bytes' first ones: a number of n bytes, as it is laid byte by byte. -/
def beN (x : Nat) : Nat → List UInt8
  | 0 => []
  | i + 1 => UInt8.ofNat (x / 2 ^ (8 * i) % 256) :: beN x i
theorem beN_length (x : Nat) : ∀ n, (beN x n).length = n
  | 0 => rfl
  | n + 1 => by simp [beN, beN_length x n]

/-- Blocks of another kind than bytes stay as they were. -/
structure Keep8 (w w' : World) : Prop where
  out : ∀ b cs t, t ≠ 5 → Blk w b cs t → Blk w' b cs t
theorem Keep8.refl (w : World) : Keep8 w w := ⟨fun _ _ _ _ h => h⟩
theorem Keep8.trans {a b c : World} (h : Keep8 a b) (k : Keep8 b c) : Keep8 a c := ⟨fun x cs t ht hb => k.out x cs t ht (h.out x cs t ht hb)⟩
theorem Keep8.alloc {a w : World} (h : Keep8 a w) (o : Obj) : Keep8 a (w.alloc o) := ⟨fun x cs t ht hb => (h.out x cs t ht hb).alloc o⟩
/-- Append of some bytes, lying in a row of their own, to a row of bytes that the call owns; other blocks stay. -/
theorem wpList_push2 {w w0 wk : World} {ops : Array Oper} {rest : List Oper} {o : Oper} {a : Act} {Q : Exit → Act → World → Prop} (hgd : o.guard = none) (s x : Operand)
    (ho : o.op = .call { callee := .builtin .append, args := #[s, x], argTypes := #[43, 43] }) (base : Nat) (v : Value) (l : List UInt8) (hs : a.eval s = v)
    (hO : Box (w.ownsRow base 5 1 v l.length (l.map yc))) (g : Nat) (news : List UInt8) (hx : a.eval x = .slice (some ⟨g, 0, none⟩) news.length news.length)
    (hn : ∀ j, j < news.length → w.cell? ⟨g, j, none⟩ = (news.map yc)[j]?) (hlen : l.length + news.length ≤ 140737488355328) (hbase : base ≤ w.heap.size) (hB : Box (Below base w0 w)) (hK : Keep8 wk w)
    (h : ∀ v' w', Box (w'.ownsRow base 5 1 v' (l ++ news).length ((l ++ news).map yc)) → Box (Below base w0 w') → Keep8 wk w' → (∃ b n c, v' = .slice b n c ∧ n = (l ++ news).length) → wpList Tryd.prog ops Q rest (a.put o.dst v') w') : wpList Tryd.prog ops Q (o :: rest) a w := by
  obtain ⟨i0, hi, hz0, hz1, hz2⟩ := info_parts info5
  refine wpList_append_own _ hgd s x 43 ho base 5 i0 (.int .u8 0) 1 1 Tryd.underlying43 hi hz0 hz1 hz2 rfl (by decide) v l.length _ hs hO.out ⟨g, 0, none⟩ news.length news.length (news.map yc) hx (by simp)
    (fun j u hj => ?_) (fun u hu => ?_) (by unfold maxLen; omega) (by omega) hbase ?_
  · have hadd : (⟨g, 0, none⟩ : Addr).add j = ⟨g, j, none⟩ := by unfold Addr.add; split <;> simp_all
    have hjl : j < news.length := by
      rcases Nat.lt_or_ge j news.length with h | h
      · exact h
      · rw [List.getElem?_eq_none (by simpa using h)] at hj; cases hj
    rw [hadd, hn j hjl]; exact hj
  · simp only [List.mem_map] at hu; obtain ⟨y, _, rfl⟩ := hu; rfl
  · intro v' w' h2 h3 _
    refine h v' w' ⟨?_⟩ ⟨hB.out.grown h3 hbase (fun k hk => (hO.out.lt k hk).1)⟩ ⟨fun b cs t ht hb => ?_⟩ ?_
    · rw [List.length_append, List.map_append]; exact h2
    · have hb1 := hK.out b cs t ht hb
      refine (h3.block b hb1.lt ?_).trans hb1
      intro e
      obtain ⟨_, ⟨rfl, _⟩ | ⟨g2, cap, cur, rfl, _, hh, _⟩⟩ := hO.out
      · cases e
      · have : b = g2 := by simpa [Value.ownBlock] using e
        subst this
        unfold Blk at hb1
        rw [hh] at hb1
        simp at hb1
        exact ht hb1.2.symm
    · obtain ⟨_, ⟨rfl, h0⟩ | ⟨g2, cap, cur, rfl, _⟩⟩ := h2
      · exact ⟨_, _, _, rfl, by rw [List.length_append]; exact h0.symm⟩
      · exact ⟨_, _, _, rfl, by rw [List.length_append]⟩

set_option maxHeartbeats 800000 in
set_option maxRecDepth 100000 in
theorem number_any (B : Nat) (w0 w : World) (v : Value) (l : List UInt8) (x : Nat) (n : Nat) (hn : n ≤ 8)
    (hO : Box (w.ownsRow B 5 1 v l.length (l.map yc))) (hB : Box (Below B w0 w)) (hBs : B ≤ w0.heap.size) (hlen : l.length ≤ 140737488355000) :
    Calls Tryd.prog 80 #[v, .int .u64 (x : Int), .int .i64 (n : Int)] w
      fun e w' => ∃ v', e = .returned v' ∧ Box (w'.ownsRow B 5 1 v' (l ++ beN x n).length ((l ++ beN x n).map yc)) ∧ Box (Below B w0 w') ∧ Keep8 w w' ∧ (∃ b n c, v' = .slice b n c) := by
  go_enter Tryd.func80, Tryd.ntmps80
  go_wp2_with fail
  go_loopw [0, 7] (fun s0 q wr => ∃ (i : Nat) (p : List UInt8), i ≤ n ∧ q = .int .i64 ((i : Int) - 1) ∧ Box (p ++ beN x i = l ++ beN x n) ∧ Box (p.length + i = l.length + n) ∧ Box (wr.ownsRow B 5 1 s0 p.length (p.map yc)) ∧ Box (Below B w0 wr) ∧ Keep8 w wr) (fun _ q _ => (intOf q + 1).toNat)
  case atStart => exact ⟨n, l, Nat.le_refl _, rfl, ⟨rfl⟩, ⟨rfl⟩, hO, hB, Keep8.refl w⟩
  case round =>
    clear hO hB
    obtain ⟨i, p, hi, rfl, hp, hpl, hO, hB, hKp⟩ := hrel
    have hSz : B ≤ wr.heap.size := Nat.le_trans hBs hB.out.size
    by_cases h0 : 0 < i
    · obtain ⟨j, rfl⟩ : ∃ j, i = j + 1 := ⟨i - 1, by omega⟩
      obtain ⟨d, hd⟩ : ∃ d, UInt8.ofNat (x / 2 ^ (8 * j) % 256) = d := ⟨_, rfl⟩
      have hcv : (x : Int) / 2 ^ (8 * j) % 256 = (d.toNat : Int) := by
        rw [← hd, UInt8.toNat_ofNat']
        have h1 : x / 2 ^ (8 * j) % 256 % 2 ^ 8 = x / 2 ^ (8 * j) % 256 := Nat.mod_eq_of_lt (by omega)
        rw [h1]; simp
      replace hd := Box.mk hd
      have hB2 : Box (Below B w0 (wr.alloc (.cells #[Value.int .u8 (d.toNat : Int)] 5))) := ⟨hB.out.alloc (by omega) _⟩
      have hsz : Box (B ≤ (wr.alloc (.cells #[Value.int .u8 (d.toNat : Int)] 5)).heap.size) := ⟨by simp; omega⟩
      have hO2 : Box ((wr.alloc (.cells #[Value.int .u8 (d.toNat : Int)] 5)).ownsRow B 5 1 u0 p.length (p.map yc)) := ⟨hO.out.alloc _⟩
      have hnw := Box.mk (byte_new wr d)
      have hcap : Box (p.length + [d].length ≤ 140737488355328) := ⟨by have := hpl.out; simp only [List.length_cons, List.length_nil]; omega⟩
      go_wp2_with (refine wpList_push2 rfl (.tmp 14) (.tmp 20) rfl B _ p rfl hO2 wr.heap.size [d] rfl hnw.out hcap.out hsz.out hB2 (hKp.alloc _) ?_; intro v2 w2 hO3 hB3 hK3 _)
      have hm : (intOf (Value.int IntKind.i64 ((j : Int) - 1)) + 1).toNat < (intOf (Value.int IntKind.i64 (((j + 1 : Nat) : Int) - 1)) + 1).toNat := by simp [intOf]
      refine ⟨⟨j, p ++ [d], by omega, rfl, ⟨?_⟩, ⟨?_⟩, hO3, hB3, hK3⟩, hm⟩
      · rw [← hp.out, beN, hd.out, List.append_assoc]; rfl
      · have := hpl.out; rw [List.length_append]; simp only [List.length_cons, List.length_nil]; omega
    · obtain rfl : i = 0 := by omega
      have hp' := hp.out
      rw [beN, List.append_nil] at hp'
      rw [hp'] at hO
      go_wp2_with fail
      go_ret
      refine ⟨_, rfl, hO, hB, hKp, ?_⟩
      obtain ⟨_, ⟨rfl, _⟩ | ⟨g2, cap, cur, rfl, _⟩⟩ := hO.out
      · exact ⟨_, _, _, rfl⟩
      · exact ⟨_, _, _, rfl⟩

def kWords : Array Value := #[Value.int IntKind.u32 1116352408, Value.int IntKind.u32 1899447441, Value.int IntKind.u32 3049323471, Value.int IntKind.u32 3921009573, Value.int IntKind.u32 961987163, Value.int IntKind.u32 1508970993, Value.int IntKind.u32 2453635748, Value.int IntKind.u32 2870763221, Value.int IntKind.u32 3624381080, Value.int IntKind.u32 310598401, Value.int IntKind.u32 607225278, Value.int IntKind.u32 1426881987, Value.int IntKind.u32 1925078388, Value.int IntKind.u32 2162078206, Value.int IntKind.u32 2614888103, Value.int IntKind.u32 3248222580, Value.int IntKind.u32 3835390401, Value.int IntKind.u32 4022224774, Value.int IntKind.u32 264347078, Value.int IntKind.u32 604807628, Value.int IntKind.u32 770255983, Value.int IntKind.u32 1249150122, Value.int IntKind.u32 1555081692, Value.int IntKind.u32 1996064986, Value.int IntKind.u32 2554220882, Value.int IntKind.u32 2821834349, Value.int IntKind.u32 2952996808, Value.int IntKind.u32 3210313671, Value.int IntKind.u32 3336571891, Value.int IntKind.u32 3584528711, Value.int IntKind.u32 113926993, Value.int IntKind.u32 338241895, Value.int IntKind.u32 666307205, Value.int IntKind.u32 773529912, Value.int IntKind.u32 1294757372, Value.int IntKind.u32 1396182291, Value.int IntKind.u32 1695183700, Value.int IntKind.u32 1986661051, Value.int IntKind.u32 2177026350, Value.int IntKind.u32 2456956037, Value.int IntKind.u32 2730485921, Value.int IntKind.u32 2820302411, Value.int IntKind.u32 3259730800, Value.int IntKind.u32 3345764771, Value.int IntKind.u32 3516065817, Value.int IntKind.u32 3600352804, Value.int IntKind.u32 4094571909, Value.int IntKind.u32 275423344, Value.int IntKind.u32 430227734, Value.int IntKind.u32 506948616, Value.int IntKind.u32 659060556, Value.int IntKind.u32 883997877, Value.int IntKind.u32 958139571, Value.int IntKind.u32 1322822218, Value.int IntKind.u32 1537002063, Value.int IntKind.u32 1747873779, Value.int IntKind.u32 1955562222, Value.int IntKind.u32 2024104815, Value.int IntKind.u32 2227730452, Value.int IntKind.u32 2361852424, Value.int IntKind.u32 2428436474, Value.int IntKind.u32 2756734187, Value.int IntKind.u32 3204031479, Value.int IntKind.u32 3329325298]
theorem kWords_eq : kWords = (k64.map fun x => Value.int .u32 (U x)).toArray := by kernel_rfl
theorem info_k : (Tryd.prog.info? 95).map (·.size) = some 64 := by kernel_rfl
theorem kWords_one : kWords.all (·.oneCell') = true := by rw [kWords_eq, List.all_toArray, List.all_eq_true]; exact words_one _
theorem zeros64_blk (w : World) : Blk (w.alloc (.cells zeros64 95)) w.heap.size (wcells 64 []) 95 := by
  have := Blk.new w (wcells 64 []) 95
  rw [zeros64_eq] at this; exact this

theorem wpList_build_to {P : Program} {w : World} {ops : Array Oper} {rest : List Oper} {o : Oper} {a : Act} {Q : Exit → Act → World → Prop} (hg : o.guard = none) (t : TypeId) (parts : Array (Nat × Operand)) (ho : o.op = .build t parts) (vs : Array Value)
    (hv : P.built t (parts.map fun (i, x) => (i, a.eval x)).toList = some vs) (h : wpList P ops Q rest (a.put o.dst (.agg vs)) w) : wpList P ops Q (o :: rest) a w := by
  refine wpList_build hg t parts ho (by rw [hv]; rfl) ?_
  rw [hv]; exact h

set_option maxHeartbeats 800000 in
set_option maxRecDepth 100000 in
theorem words_any (w : World) :
    Calls Tryd.prog 81 #[] w fun e w' => e = .returned (.agg kWords) ∧ Below w.heap.size w w' := by
  have hU : Box ((w.alloc (.cells zeros64 95)).heap[w.heap.size]? = some (.cells zeros64 95 (0, 0))) := ⟨heap_alloc_new w _⟩
  have hB : Box (Below w.heap.size w ((w.alloc (.cells zeros64 95)).setRow w.heap.size kWords)) := ⟨((Below.refl w.heap.size w).alloc (Nat.le_refl _) _).trans ((setRow_save _ _ _ _).below (Nat.le_refl _))⟩
  have hE : Box (((w.alloc (.cells zeros64 95)).setRow w.heap.size kWords).heap[w.heap.size]? = some (.cells kWords 95 (0, 0))) := ⟨by
    have := setRow_blk (zeros64_blk w) kWords.toList
    simpa [Blk] using this⟩
  go_enter Tryd.func81, Tryd.ntmps81
  go_wp2_with (first | (refine wpList_build_to rfl 95 _ rfl kWords (by kernel_rfl) ?_) | (refine wpList_store_row rfl 95 (.tmp 0) (.tmp 1) rfl w.heap.size kWords rfl rfl 95 zeros64 hU.out info_k rfl kWords_one ?_))
  refine bodyPost_ret (v := .agg kWords) (results_cell_row (p := 0) rfl _ _ w.heap.size 95 kWords (0, 0) _ rfl hE.out Tryd.underlying95 rfl info_k) rfl ⟨rfl, hB.out⟩
end Go.Proofs.YtdnhpldcnmbncaaDoor
