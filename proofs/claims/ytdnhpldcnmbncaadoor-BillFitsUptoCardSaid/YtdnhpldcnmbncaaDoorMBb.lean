/- Bills laid as bytes: Leaf and Bytes of both. | Bills made: Make of both. | Bills made: Make of the document. -/
import Derived.Test.YtdnhpldcnmbncaaDoorMBa
import Derived.Test.YtdnhpldcnmbncaaDoorKPx
import Derived.Test.YtdnhpldcnmbncaaDoorTxR
namespace Go.Proofs.YtdnhpldcnmbncaaDoor.Bi
open Go Go.RowKit Go.Proofs.YtdnhpldcnmbncaaDoor
set_option linter.all false

def leafL (v s c : Int) (h t : ByteArray) : List UInt8 := Pk.beN v.toNat 1 ++ Pk.beN s.toNat 4 ++ Pk.beN c.toNat 2 ++ h.data.toList ++ t.data.toList
def catL (l : List ByteArray) : List UInt8 := l.flatMap fun x => x.data.toList
def leafT (v s c : Int) (h t : ByteArray) (l : List ByteArray) : ByteArray := if chkB v s c h t l then ⟨(leafL v s c h t).toArray⟩ else ByteArray.empty
def bytT (v s c : Int) (h t : ByteArray) (l : List ByteArray) : ByteArray := if chkB v s c h t l then ⟨(leafL v s c h t ++ catL l).toArray⟩ else ByteArray.empty
theorem leafL_len {v s c : Int} {h t : ByteArray} (hh : h.size = 32) (ht : t.size = 32) : (leafL v s c h t).length = 71 := by
  unfold leafL
  simp only [List.length_append, Pk.beN_length, Pk.data_len, hh, ht]
theorem catL_snoc (l : List ByteArray) (i : Nat) (h : i < l.length) : catL (l.take (i + 1)) = catL (l.take i) ++ (l.getD i ByteArray.empty).data.toList := by
  unfold catL
  rw [List.take_succ_eq_append_getElem h, List.flatMap_append]
  simp [List.getD, h]
theorem catL_len (l : List ByteArray) (h : ∀ x ∈ l, x.size = 32) (i : Nat) : (catL (l.take i)).length ≤ 32 * l.length := by
  have h1 : ∀ m : List ByteArray, (∀ x ∈ m, x.size = 32) → (catL m).length = 32 * m.length := by
    intro m
    induction m with
    | nil => intro _; rfl
    | cons x m ih =>
      intro hm
      unfold catL at ih ⊢
      rw [List.flatMap_cons, List.length_append, ih fun y hy => hm y (List.mem_cons_of_mem _ hy), Pk.data_len, hm x (List.mem_cons_self ..), List.length_cons]
      omega
  rw [h1 _ fun x hx => h x (List.mem_of_mem_take hx), List.length_take]
  omega
theorem chk_32 {v s c : Int} {h t : ByteArray} {l : List ByteArray} (hc : chkB v s c h t l = true) : h.size = 32 ∧ t.size = 32 := by
  unfold chkB at hc; simp only [Bool.and_eq_true, decide_eq_true_eq] at hc; exact ⟨hc.2.1, hc.2.2.1⟩
theorem chk_fits {v s c : Int} {h t : ByteArray} {l : List ByteArray} (hc : chkB v s c h t l = true) : Pk.fits v 1 = true ∧ Pk.fits s 4 = true ∧ Pk.fits c 2 = true := by
  obtain ⟨h1, h2, _⟩ := num_sz (chk_num hc)
  obtain ⟨h3, h4, h5, h6⟩ := chk_sz hc
  refine ⟨?_, ?_, ?_⟩ <;> simp [Pk.fits] <;> omega
theorem chk_all {v s c : Int} {h t : ByteArray} {l : List ByteArray} (hc : chkB v s c h t l = true) : (∀ x ∈ l, x.size = 32) ∧ l.length ≤ 128 := by
  by_cases h0 : l.length = 0
  · obtain rfl : l = [] := List.length_eq_zero_iff.1 h0
    exact ⟨fun x hx => (by cases hx), Nat.zero_le _⟩
  · obtain ⟨h1, _, h3⟩ := chk_len hc h0
    have := (cn_yes hc).2.2
    exact ⟨h3, by omega⟩
theorem chgB {S : Nat → Prop} {w w' : World} (h : Below w.heap.size w w') : Pk.Chg S w w' := (Pk.Chg.of_below h).mono fun i hi e => absurd hi (by omega)
/-- A writer that is new since w0, and a bill in its own block. -/
structure BX (w0 : World) (ty : TypeId) (b : Nat) (bs : List UInt8) (g : Nat) (v s c : Int) (h t : ByteArray) (x : Value) (w : World) : Prop where
  out : ∃ u, Pk.WAt w b ty u bs false ∧ w0.heap.size ≤ b ∧ ∀ k, u.ownBlock = some k → w0.heap.size ≤ k
  bill : BAt w g v s c h t x
  ne : g ≠ b
  bel : Below w0.heap.size w0 w
theorem BX.step {w0 : World} {ty : TypeId} {b : Nat} {bs bs2 : List UInt8} {g : Nat} {v s c : Int} {h t : ByteArray} {x r : Value} {w : World} {F : FuncId} {args : Array Value} (hX : BX w0 ty b bs g v s c h t x w)
    (hc : ∀ u, Pk.WAt w b ty u bs false → Calls Tryd.prog F args w fun e w' => e = .returned r ∧ Pk.WNext w b ty u bs2 false w') :
    Calls Tryd.prog F args w fun e w' => e = .returned r ∧ BX w0 ty b bs2 g v s c h t x w' := by
  obtain ⟨u, h1, h2, h3⟩ := hX.out
  refine (hc u h1).mono fun e w' ⟨he, hn⟩ => ⟨he, ?_⟩
  obtain ⟨u', k1, k2, k3⟩ := hn.out
  have hu : u.ownBlock ≠ some g := Pk.Own.apart h1.own hX.bill (by decide)
  refine ⟨⟨u', k1, h2, fun k hk => ?_⟩, k2.blk hX.bill fun e => ?_, hX.ne, hX.bel.trans (k2.below hX.bel.size fun i hi => ?_)⟩
  · rcases k3 k hk with e | e
    · exact h3 k e
    · exact Nat.le_trans hX.bel.size e
  · rcases e with e | e
    · exact hX.ne e
    · exact hu e
  · rcases hi with rfl | hi
    · exact h2
    · exact h3 i hi
theorem BX.new {w0 w : World} {g : Nat} {v s c : Int} {h t : ByteArray} {x : Value} (ty : TypeId) (hA : BAt w g v s c h t x) (hb : Below w0.heap.size w0 w) :
    BX w0 ty w.heap.size [] g v s c h t x (w.alloc (.cells #[.slice none 0 0, .bool false] ty)) :=
  ⟨⟨.slice none 0 0, ⟨Pk.Blk.new w [.slice none 0 0, .bool false] ty, Pk.Own.nil _⟩, hb.size, (fun k hk => by cases hk)⟩, hA.here (bel_alloc _ _), (fun e => by have := Pk.Blk.lt hA; omega), mono_bel hb (bel_alloc _ _) (Nat.le_refl _)⟩
/-- Within layLeaf: the writer, told from the call's world, and the bill in its own block. -/
structure LX (w0 : World) (ty : TypeId) (b : Nat) (u0 : Value) (bs : List UInt8) (g : Nat) (v s c : Int) (h t : ByteArray) (x : Value) (w : World) : Prop where
  out : ∃ u, Pk.WAt w b ty u bs false ∧ Pk.Chg (fun k => k = b ∨ u0.ownBlock = some k) w0 w ∧ ∀ k, u.ownBlock = some k → u0.ownBlock = some k ∨ w0.heap.size ≤ k
  bill : BAt w g v s c h t x
  ne : g ≠ b
theorem LX.step {w0 : World} {ty : TypeId} {b : Nat} {u0 : Value} {bs bs2 : List UInt8} {g : Nat} {v s c : Int} {h t : ByteArray} {x r : Value} {w : World} {F : FuncId} {args : Array Value} (hX : LX w0 ty b u0 bs g v s c h t x w)
    (hc : ∀ u, Pk.WAt w b ty u bs false → Calls Tryd.prog F args w fun e w' => e = .returned r ∧ Pk.WNext w b ty u bs2 false w') :
    Calls Tryd.prog F args w fun e w' => e = .returned r ∧ LX w0 ty b u0 bs2 g v s c h t x w' := by
  obtain ⟨u, h1, h2, h3⟩ := hX.out
  refine (hc u h1).mono fun e w' ⟨he, hn⟩ => ⟨he, ?_⟩
  have hu : u.ownBlock ≠ some g := Pk.Own.apart h1.own hX.bill (by decide)
  refine ⟨(Pk.WNext.trans h1 h2 h3 hn).out, ?_, hX.ne⟩
  obtain ⟨u', k1, k2, k3⟩ := hn.out
  refine k2.blk hX.bill fun e => ?_
  rcases e with e | e
  · exact hX.ne e
  · exact hu e
theorem hash_any' (b : Nat) (u : Value) (l : List UInt8) (s : ByteArray) (w : World) (hW : Pk.WAt w b 51 u l false) (hlen : l.length ≤ 35184372088000) (hs : s.size = 32) :
    Calls Tryd.prog 43 #[.pointer (some ⟨b, 0, none⟩), .string s] w fun e w' => e = .returned (.tuple #[]) ∧ Pk.WNext w b 51 u (l ++ s.data.toList) false w' := by
  have h1 := Pk.hash_any b u l false s w hW hlen
  rw [decide_eq_true hs] at h1
  exact h1
theorem xhash_any' (b : Nat) (u : Value) (l : List UInt8) (s : ByteArray) (w : World) (hW : Pk.WAt w b 57 u l false) (hlen : l.length ≤ 35184372088000) (hs : s.size = 32) :
    Calls Tryd.prog 41 #[.pointer (some ⟨b, 0, none⟩), .string s] w fun e w' => e = .returned (.tuple #[]) ∧ Pk.WNext w b 57 u (l ++ s.data.toList) false w' := by
  have h1 := Pk.xhash_lay b u l false s w hW hlen
  rw [decide_eq_true hs] at h1
  exact h1
theorem byte_any' (b : Nat) (u : Value) (l : List UInt8) (n : Int) (w : World) (hW : Pk.WAt w b 51 u l false) (hlen : l.length ≤ 35184372088000) (hf : Pk.fits n 1 = true) :
    Calls Tryd.prog 64 #[.pointer (some ⟨b, 0, none⟩), .int .i64 n] w fun e w' => e = .returned (.tuple #[]) ∧ Pk.WNext w b 51 u (l ++ Pk.beN n.toNat 1) false w' := by
  have h1 := Pk.byte_any b u l false n w hW (by omega)
  rw [hf] at h1
  exact h1
theorem four_any' (b : Nat) (u : Value) (l : List UInt8) (n : Int) (w : World) (hW : Pk.WAt w b 51 u l false) (hlen : l.length ≤ 35184372088000) (hf : Pk.fits n 4 = true) :
    Calls Tryd.prog 65 #[.pointer (some ⟨b, 0, none⟩), .int .i64 n] w fun e w' => e = .returned (.tuple #[]) ∧ Pk.WNext w b 51 u (l ++ Pk.beN n.toNat 4) false w' := by
  have h1 := Pk.four_any b u l false n w hW (by omega)
  rw [hf] at h1
  exact h1
theorem two_any' (b : Nat) (u : Value) (l : List UInt8) (n : Int) (w : World) (hW : Pk.WAt w b 51 u l false) (hlen : l.length ≤ 35184372088000) (hf : Pk.fits n 2 = true) :
    Calls Tryd.prog 66 #[.pointer (some ⟨b, 0, none⟩), .int .i64 n] w fun e w' => e = .returned (.tuple #[]) ∧ Pk.WNext w b 51 u (l ++ Pk.beN n.toNat 2) false w' := by
  have h1 := Pk.two_any b u l false n w hW (by omega)
  rw [hf] at h1
  exact h1
theorem xnum_any' (k : Nat) (b : Nat) (u : Value) (l : List UInt8) (n : Int) (w : World) (hW : Pk.WAt w b 57 u l false) (hlen : l.length ≤ 35184372088000) (hf : Pk.fits n k = true) (hk : k = 1 ∨ k = 2 ∨ k = 4 ∨ k = 8) (hn : -9223372036854775808 ≤ n ∧ n ≤ 9223372036854775807) :
    Calls Tryd.prog 40 #[.pointer (some ⟨b, 0, none⟩), .int .i64 n, .int .i64 (k : Int)] w fun e w' => e = .returned (.tuple #[]) ∧ Pk.WNext w b 57 u (l ++ Pk.beN n.toNat k) false w' := by
  have h1 := Pk.xnum_any b u l false n k w hk hn hW (by omega)
  rw [hf] at h1
  exact h1
set_option maxHeartbeats 1600000 in
set_option maxRecDepth 100000 in
theorem laylf_any (b : Nat) (u : Value) (v s c : Int) (h t : ByteArray) (a : Option Addr) (n k : Nat) (w : World) (hW : Pk.WAt w b 51 u [] false) (hv : Pk.fits v 1 = true) (hs : Pk.fits s 4 = true) (hc : Pk.fits c 2 = true) (hh : h.size = 32) (ht : t.size = 32) :
    Calls Tryd.prog 38 #[.pointer (some ⟨b, 0, none⟩), .agg #[.int .i64 v, .int .i64 s, .int .i64 c, .string h, .string t, .slice a n k]] w fun e w' => e = .returned (.tuple #[]) ∧ Pk.WNext w b 51 u (leafL v s c h t) false w' := by
  have hlt := Pk.Blk.lt hW.blk
  have hX : LX w 51 b u [] w.heap.size v s c h t (.slice a n k) (w.alloc (.cells #[.int .i64 v, .int .i64 s, .int .i64 c, .string h, .string t, .slice a n k] 25)) :=
    ⟨⟨u, hW.alloc _, (Pk.Chg.refl _ _).alloc _, fun k hk => .inl hk⟩, BAt.new w v s c h t (.slice a n k), by omega⟩
  obtain ⟨w1, hw1⟩ : ∃ W, w.alloc (.cells #[.int .i64 v, .int .i64 s, .int .i64 c, .string h, .string t, .slice a n k] 25) = W := ⟨_, rfl⟩
  rw [hw1] at hX
  obtain ⟨g, hg⟩ : ∃ g, w.heap.size = g := ⟨_, rfl⟩
  rw [hg] at hX
  obtain ⟨q0, q1, q2, q3, q4, q5⟩ := hX.bill.cells
  have c1 := hX.step fun u h1 => byte_any' b u _ v w1 h1 (by simp) hv
  have l1 := Pk.beN_length v.toNat 1
  have l2 := Pk.beN_length s.toNat 4
  have l3 := Pk.beN_length c.toNat 2
  have l4 : h.data.toList.length = 32 := by rw [Pk.data_len, hh]
  have l5 : t.data.toList.length = 32 := by rw [Pk.data_len, ht]
  have e1 : Box (leafL v s c h t = [] ++ Pk.beN v.toNat 1 ++ Pk.beN s.toNat 4 ++ Pk.beN c.toNat 2 ++ h.data.toList ++ t.data.toList) := ⟨rfl⟩
  have c2 := Box.mk fun w' (hX : LX w 51 b u ([] ++ Pk.beN v.toNat 1) g v s c h t (.slice a n k) w') => hX.step fun u h1 => four_any' b u _ s w' h1 (by simp [l1]) hs
  have c3 := Box.mk fun w' (hX : LX w 51 b u ([] ++ Pk.beN v.toNat 1 ++ Pk.beN s.toNat 4) g v s c h t (.slice a n k) w') => hX.step fun u h1 => two_any' b u _ c w' h1 (by simp [l1, l2]) hc
  have c4 := Box.mk fun w' (hX : LX w 51 b u ([] ++ Pk.beN v.toNat 1 ++ Pk.beN s.toNat 4 ++ Pk.beN c.toNat 2) g v s c h t (.slice a n k) w') => hX.step fun u h1 => hash_any' b u _ h w' h1 (by simp [l1, l2, l3]) hh
  have c5 := Box.mk fun w' (hX : LX w 51 b u ([] ++ Pk.beN v.toNat 1 ++ Pk.beN s.toNat 4 ++ Pk.beN c.toNat 2 ++ h.data.toList) g v s c h t (.slice a n k) w') => hX.step fun u h1 => hash_any' b u _ t w' h1 (by simp [l1, l2, l3, Pk.data_len, hh]) ht
  obtain ⟨L, hL⟩ : ∃ L, leafL v s c h t = L := ⟨_, rfl⟩
  rw [hL] at e1 ⊢
  rw [← e1.out] at c5
  obtain ⟨L1, hL1⟩ : ∃ L, ([] : List UInt8) ++ Pk.beN v.toNat 1 = L := ⟨_, rfl⟩
  rw [hL1] at c1 c2 c3 c4 c5
  obtain ⟨L2, hL2⟩ : ∃ L, L1 ++ Pk.beN s.toNat 4 = L := ⟨_, rfl⟩
  rw [hL2] at c2 c3 c4 c5
  obtain ⟨L3, hL3⟩ : ∃ L, L2 ++ Pk.beN c.toNat 2 = L := ⟨_, rfl⟩
  rw [hL3] at c3 c4 c5
  obtain ⟨L4, hL4⟩ : ∃ L, L3 ++ h.data.toList = L := ⟨_, rfl⟩
  rw [hL4] at c4 c5
  clear hX l1 l2 l3 l4 l5 e1 hL hL1 hL2 hL3 hL4 hh ht hv hs hc hW hlt
  go_enter Tryd.func38, Tryd.ntmps38
  go_wp2_with fail
  refine c1.mono ?_
  clear c1 q0 q1 q2 q3 q4 q5 hw1
  rintro e w2 ⟨rfl, hX⟩
  obtain ⟨q0, q1, q2, q3, q4, q5⟩ := hX.bill.cells
  have c1 := c2.out w2 hX
  clear c2 hX
  go_wp2_with fail
  refine c1.mono ?_
  clear c1 q0 q1 q2 q3 q4 q5
  rintro e w3 ⟨rfl, hX⟩
  obtain ⟨q0, q1, q2, q3, q4, q5⟩ := hX.bill.cells
  have c1 := c3.out w3 hX
  clear c3 hX
  go_wp2_with fail
  refine c1.mono ?_
  clear c1 q0 q1 q2 q3 q4 q5
  rintro e w4 ⟨rfl, hX⟩
  obtain ⟨q0, q1, q2, q3, q4, q5⟩ := hX.bill.cells
  have c1 := c4.out w4 hX
  clear c4 hX
  go_wp2_with fail
  refine c1.mono ?_
  clear c1 q0 q1 q2 q3 q4 q5
  rintro e w5 ⟨rfl, hX⟩
  obtain ⟨q0, q1, q2, q3, q4, q5⟩ := hX.bill.cells
  have c1 := c5.out w5 hX
  clear c5 hX
  go_wp2_with fail
  refine c1.mono ?_
  clear c1 q0 q1 q2 q3 q4 q5
  rintro e w6 ⟨rfl, hX⟩
  replace hX := Box.mk hX
  go_wp2_with fail
  go_returns
  exact ⟨rfl, ⟨hX.out.out⟩⟩
theorem leafT_yes {v s c : Int} {h t : ByteArray} {l : List ByteArray} (hc : chkB v s c h t l = true) : leafT v s c h t l = ⟨(leafL v s c h t).toArray⟩ ∧ chkI v s c h t l = 0 := by unfold leafT chkI; rw [hc]; exact ⟨rfl, rfl⟩
theorem leafT_no {v s c : Int} {h t : ByteArray} {l : List ByteArray} (hc : chkB v s c h t l = false) : leafT v s c h t l = ⟨#[]⟩ ∧ chkI v s c h t l = 1 := by unfold leafT chkI; rw [hc]; exact ⟨rfl, rfl⟩
theorem bytT_yes {v s c : Int} {h t : ByteArray} {l : List ByteArray} (hc : chkB v s c h t l = true) : bytT v s c h t l = ⟨(leafL v s c h t ++ catL l).toArray⟩ ∧ chkI v s c h t l = 0 := by unfold bytT chkI; rw [hc]; exact ⟨rfl, rfl⟩
theorem bytT_no {v s c : Int} {h t : ByteArray} {l : List ByteArray} (hc : chkB v s c h t l = false) : bytT v s c h t l = ⟨#[]⟩ ∧ chkI v s c h t l = 1 := by unfold bytT chkI; rw [hc]; exact ⟨rfl, rfl⟩
set_option maxHeartbeats 1600000 in
set_option maxRecDepth 100000 in
theorem bleaf_any (v s c : Int) (h t : ByteArray) (a : Option Addr) (n k : Nat) (l : List ByteArray) (w : World) (hP : PA w a n k l) (hK : KIs w) :
    Calls Tryd.prog 11 #[.agg #[.int .i64 v, .int .i64 s, .int .i64 c, .string h, .string t, .slice a n k]] w fun e w' => e = .returned (.tuple #[.string (leafT v s c h t l), .int .i64 (chkI v s c h t l)]) ∧ Below w.heap.size w w' := by
  have h1 := Box.mk fun w' (hx : Below w.heap.size w w') => check_any v s c h t a n k l w' (hP.here hx) (hK.below hx hK.lt)
  cases hB : chkB v s c h t l
  · obtain ⟨hT, hI⟩ := leafT_no hB
    rw [hI] at h1 ⊢
    rw [hT]
    clear hB hT hI hP hK
    have hb := bel_alloc w (.cells #[.int .i64 v, .int .i64 s, .int .i64 c, .string h, .string t, .slice a n k] 25)
    have hA := BAt.new w v s c h t (.slice a n k)
    obtain ⟨w1, hw1⟩ : ∃ W, w.alloc (.cells #[.int .i64 v, .int .i64 s, .int .i64 c, .string h, .string t, .slice a n k] 25) = W := ⟨_, rfl⟩
    rw [hw1] at hb hA
    obtain ⟨b, hbe⟩ : ∃ b, w.heap.size = b := ⟨_, rfl⟩
    rw [hbe] at hA
    obtain ⟨q0, q1, q2, q3, q4, q5⟩ := hA.cells
    replace hb := Box.mk hb
    replace hA := Box.mk hA
    have h2 := h1.out w1 hb.out
    go_enter Tryd.func11, Tryd.ntmps11
    go_wp2_with fail
    refine h2.mono ?_
    clear h2
    rintro e w2 ⟨rfl, hb2⟩
    replace hA := Box.mk (hA.out.here hb2)
    replace hb := Box.mk (mono_bel hb.out hb2 (Nat.le_refl _))
    clear hb2 q0 q1 q2 q3 q4 q5
    try clear hw1
    obtain ⟨q0, q1, q2, q3, q4, q5⟩ := hA.out.cells
    go_wp2_with fail
    go_returns
    exact ⟨rfl, by first | exact hb.out | exact hbe ▸ hb.out⟩
  · obtain ⟨hT, hI⟩ := leafT_yes hB
    obtain ⟨f1, f2, f3⟩ := chk_fits hB
    obtain ⟨g1, g2⟩ := chk_32 hB
    rw [hI] at h1 ⊢
    rw [hT]
    clear hB hT hI hP hK
    have hL := Box.mk fun w' b u hW => laylf_any b u v s c h t a n k w' hW f1 f2 f3 g1 g2
    obtain ⟨L, hLe⟩ : ∃ L, leafL v s c h t = L := ⟨_, rfl⟩
    rw [hLe] at hL ⊢
    clear hLe f1 f2 f3 g1 g2
    have hb := bel_alloc w (.cells #[.int .i64 v, .int .i64 s, .int .i64 c, .string h, .string t, .slice a n k] 25)
    have hA := BAt.new w v s c h t (.slice a n k)
    obtain ⟨w1, hw1⟩ : ∃ W, w.alloc (.cells #[.int .i64 v, .int .i64 s, .int .i64 c, .string h, .string t, .slice a n k] 25) = W := ⟨_, rfl⟩
    rw [hw1] at hb hA
    obtain ⟨b, hbe⟩ : ∃ b, w.heap.size = b := ⟨_, rfl⟩
    rw [hbe] at hA
    obtain ⟨q0, q1, q2, q3, q4, q5⟩ := hA.cells
    replace hb := Box.mk hb
    replace hA := Box.mk hA
    have h2 := h1.out w1 hb.out
    go_enter Tryd.func11, Tryd.ntmps11
    go_wp2_with fail
    refine h2.mono ?_
    clear h2
    rintro e w2 ⟨rfl, hb2⟩
    replace hA := Box.mk (hA.out.here hb2)
    replace hb := Box.mk (mono_bel hb.out hb2 (Nat.le_refl _))
    clear hb2 q0 q1 q2 q3 q4 q5
    try clear hw1
    obtain ⟨q0, q1, q2, q3, q4, q5⟩ := hA.out.cells
    have hX := BX.new 51 hA.out hb.out
    obtain ⟨w3, hw3⟩ : ∃ W, w2.alloc (.cells #[.slice none 0 0, .bool false] 51) = W := ⟨_, rfl⟩
    rw [hw3] at hX
    obtain ⟨d, hd⟩ : ∃ d, w2.heap.size = d := ⟨_, rfl⟩
    rw [hd] at hX
    clear q0 q1 q2 q3 q4 q5
    obtain ⟨q0, q1, q2, q3, q4, q5⟩ := hX.bill.cells
    have h2 := hX.step fun u hu => hL.out w3 d u hu
    clear hA hb hX hL
    go_wp2_with fail
    refine h2.mono ?_
    clear h2 hw3 hd q0 q1 q2 q3 q4 q5
    rintro e w4 ⟨rfl, hX⟩
    obtain ⟨u, hW, _, _⟩ := hX.out
    have h2 := Pk.bytes_any d u L false w4 hW
    have hb := Box.mk hX.bel
    unfold Pk.bytesR at h2
    rw [if_neg (by decide)] at h2
    clear hX hW
    go_wp2_with fail
    refine h2.mono ?_
    clear h2
    rintro e w5 ⟨rfl, rfl⟩
    go_wp2_with fail
    go_returns
    exact ⟨rfl, by first | exact hb.out | exact hbe ▸ hb.out⟩
set_option maxHeartbeats 1600000 in
set_option maxRecDepth 100000 in
theorem bbytes_any (v s c : Int) (h t : ByteArray) (a : Option Addr) (n k : Nat) (l : List ByteArray) (w : World) (hP : PA w a n k l) (hK : KIs w) :
    Calls Tryd.prog 13 #[.agg #[.int .i64 v, .int .i64 s, .int .i64 c, .string h, .string t, .slice a n k]] w fun e w' => e = .returned (.tuple #[.string (bytT v s c h t l), .int .i64 (chkI v s c h t l)]) ∧ Below w.heap.size w w' := by
  have h1 := Box.mk fun w' (hx : Below w.heap.size w w') => check_any v s c h t a n k l w' (hP.here hx) (hK.below hx hK.lt)
  cases hB : chkB v s c h t l
  · obtain ⟨hT, hI⟩ := bytT_no hB
    rw [hI] at h1 ⊢
    rw [hT]
    clear hB hT hI hP hK
    have hb := bel_alloc w (.cells #[.int .i64 v, .int .i64 s, .int .i64 c, .string h, .string t, .slice a n k] 25)
    have hA := BAt.new w v s c h t (.slice a n k)
    obtain ⟨w1, hw1⟩ : ∃ W, w.alloc (.cells #[.int .i64 v, .int .i64 s, .int .i64 c, .string h, .string t, .slice a n k] 25) = W := ⟨_, rfl⟩
    rw [hw1] at hb hA
    obtain ⟨b, hbe⟩ : ∃ b, w.heap.size = b := ⟨_, rfl⟩
    rw [hbe] at hA
    obtain ⟨q0, q1, q2, q3, q4, q5⟩ := hA.cells
    replace hb := Box.mk hb
    replace hA := Box.mk hA
    have h2 := h1.out w1 hb.out
    go_enter Tryd.func13, Tryd.ntmps13
    go_wp2_with fail
    refine h2.mono ?_
    clear h2
    rintro e w2 ⟨rfl, hb2⟩
    replace hA := Box.mk (hA.out.here hb2)
    replace hb := Box.mk (mono_bel hb.out hb2 (Nat.le_refl _))
    clear hb2 q0 q1 q2 q3 q4 q5
    try clear hw1
    obtain ⟨q0, q1, q2, q3, q4, q5⟩ := hA.out.cells
    go_wp2_with fail
    go_returns
    exact ⟨rfl, by first | exact hb.out | exact hbe ▸ hb.out⟩
  · obtain ⟨hT, hI⟩ := bytT_yes hB
    obtain ⟨f1, f2, f3⟩ := chk_fits hB
    obtain ⟨g1, g2⟩ := chk_32 hB
    obtain ⟨hall, hl128⟩ := chk_all hB
    rw [hI] at h1 ⊢
    rw [hT]
    have hL := Box.mk fun w' b u hW => laylf_any b u v s c h t a n k w' hW f1 f2 f3 g1 g2
    have hLl : Box ((leafL v s c h t).length = 71) := ⟨leafL_len g1 g2⟩
    have hPB := Box.mk fun w' (hx : Below w.heap.size w w') => hP.here hx
    have hcap := hP.cap
    have htop := hP.top
    have hlen := hP.len
    have hsn := Box.mk (catL_snoc l)
    have hcl := Box.mk (catL_len l hall)
    have hall2 := Box.mk fun i (hi : i < l.length) => hall (l.getD i ByteArray.empty) (by simp [List.getD, hi])
    have hlast : Box (l.take l.length = l) := ⟨List.take_length⟩
    obtain ⟨L, hLe⟩ : ∃ L, leafL v s c h t = L := ⟨_, rfl⟩
    rw [hLe] at hL hLl ⊢
    rw [hlen] at hsn hcl hall2 hlast hl128
    clear hB hT hI hP hK hLe f1 f2 f3 g1 g2 hall hlen
    have hb := bel_alloc w (.cells #[.int .i64 v, .int .i64 s, .int .i64 c, .string h, .string t, .slice a n k] 25)
    have hA := BAt.new w v s c h t (.slice a n k)
    obtain ⟨w1, hw1⟩ : ∃ W, w.alloc (.cells #[.int .i64 v, .int .i64 s, .int .i64 c, .string h, .string t, .slice a n k] 25) = W := ⟨_, rfl⟩
    rw [hw1] at hb hA
    obtain ⟨b, hbe⟩ : ∃ b, w.heap.size = b := ⟨_, rfl⟩
    rw [hbe] at hA
    obtain ⟨q0, q1, q2, q3, q4, q5⟩ := hA.cells
    replace hb := Box.mk hb
    replace hA := Box.mk hA
    have h2 := h1.out w1 hb.out
    go_enter Tryd.func13, Tryd.ntmps13
    go_wp2_with fail
    refine h2.mono ?_
    clear h2
    rintro e w2 ⟨rfl, hb2⟩
    replace hA := Box.mk (hA.out.here hb2)
    replace hb := Box.mk (mono_bel hb.out hb2 (Nat.le_refl _))
    clear hb2 q0 q1 q2 q3 q4 q5
    try clear hw1
    obtain ⟨q0, q1, q2, q3, q4, q5⟩ := hA.out.cells
    have hX := BX.new 51 hA.out hb.out
    obtain ⟨w3, hw3⟩ : ∃ W, w2.alloc (.cells #[.slice none 0 0, .bool false] 51) = W := ⟨_, rfl⟩
    rw [hw3] at hX
    obtain ⟨d, hd⟩ : ∃ d, w2.heap.size = d := ⟨_, rfl⟩
    rw [hd] at hX
    clear q0 q1 q2 q3 q4 q5
    obtain ⟨q0, q1, q2, q3, q4, q5⟩ := hX.bill.cells
    have h2 := hX.step fun u hu => hL.out w3 d u hu
    clear hA hb hX hL
    go_wp2_with fail
    refine h2.mono ?_
    clear h2 hw3 hd q0 q1 q2 q3 q4 q5
    rintro e w4 ⟨rfl, hX⟩
    obtain ⟨q0, q1, q2, q3, q4, q5⟩ := hX.bill.cells
    have hS0 : Box (BX w 51 d (L ++ catL (l.take 0)) b v s c h t (.slice a n k) w4) := ⟨by simpa [catL] using hX⟩
    clear hX
    go_wp2_with fail
    clear q0 q1 q2 q3 q4 q5
    go_loopw [18] (fun q wr => ∃ i : Nat, i ≤ n ∧ q = .int .i64 (i : Int) ∧ Box (BX w 51 d (L ++ catL (l.take i)) b v s c h t (.slice a n k) wr)) (fun q _ => n - (intOf q).toNat)
    case atStart => exact ⟨0, by omega, rfl, hS0⟩
    case round =>
      clear hS0
      obtain ⟨i, hi, rfl, hS⟩ := hrel
      by_cases hlt : i < n
      · have hii : (i : Int) < (n : Int) := by omega
        obtain ⟨blk, off, rfl, hblk, hcell⟩ := (hPB.out wr hS.out.bel).at_ (by omega)
        have hc0 := hcell i hlt
        have h32 := hall2.out i hlt
        have hsn2 := hsn.out i hlt
        have hcl2 := hcl.out i
        obtain ⟨x, hx⟩ : ∃ x, l.getD i ByteArray.empty = x := ⟨_, rfl⟩
        rw [hx] at hc0 h32 hsn2
        have h2 := hS.out.step fun u hu => hash_any' d u _ x wr hu (by rw [List.length_append, hLl.out]; omega) h32
        rw [List.append_assoc, ← hsn2] at h2
        clear hS hcell hblk hx h32 hsn2 hcl2
        go_wp2_with fail
        refine h2.mono ?_
        clear h2
        rintro e w5 ⟨rfl, hS⟩
        replace hS := Box.mk hS
        go_wp2_with fail
        exact ⟨⟨i + 1, by omega, by go_num, hS⟩, by simp [intOf]; omega⟩
      · obtain rfl : i = n := by omega
        have hnl : ¬ (i : Int) < (i : Int) := by omega
        rw [hlast.out] at hS
        obtain ⟨u, hW, _, _⟩ := hS.out.out
        have h2 := Pk.bytes_any d u _ false wr hW
        have hb := Box.mk hS.out.bel
        unfold Pk.bytesR at h2
        rw [if_neg (by decide)] at h2
        obtain ⟨M, hM⟩ : ∃ M, L ++ catL l = M := ⟨_, rfl⟩
        rw [hM] at h2
        replace hM := Box.mk hM
        clear hS hW
        go_wp2_with fail
        refine h2.mono ?_
        clear h2
        rintro e w5 ⟨rfl, rfl⟩
        go_wp2_with fail
        go_returns
        exact ⟨by rw [hM.out]; rfl, by first | exact hb.out | exact hbe ▸ hb.out⟩
theorem app_txt (A : List UInt8) (x : ByteArray) : (⟨A.toArray⟩ : ByteArray) ++ x = ⟨(A ++ x.data.toList).toArray⟩ := by
  apply ByteArray.ext
  rw [ByteArray.data_append]
  simp
set_option maxHeartbeats 1600000 in
set_option maxRecDepth 100000 in
theorem rleaf15_any (v s c : Int) (h t : ByteArray) (a : Option Addr) (n k : Nat) (l : List ByteArray) (w : World) (hP : PA w a n k l) (hF : Fit l) :
    Calls Tryd.prog 12 #[.agg #[.int .i64 v, .int .i64 s, .int .i64 c, .string h, .string t, .slice a n k]] w fun e w' => e = .returned (.tuple #[.string (leafT v s c h t l), .int .i64 (chkI v s c h t l)]) ∧ Below w.heap.size w w' := by
  have h1 := Box.mk fun w' (hx : Below w.heap.size w w') => rcheck_any v s c h t a n k l w' (hP.here hx) hF
  cases hB : chkB v s c h t l
  · obtain ⟨hT, hI⟩ := leafT_no hB
    rw [hI] at h1 ⊢
    rw [hT]
    clear hB hT hI hP hF
    have hb := bel_alloc w (.cells #[.int .i64 v, .int .i64 s, .int .i64 c, .string h, .string t, .slice a n k] 25)
    have hA := BAt.new w v s c h t (.slice a n k)
    obtain ⟨w1, hw1⟩ : ∃ W, w.alloc (.cells #[.int .i64 v, .int .i64 s, .int .i64 c, .string h, .string t, .slice a n k] 25) = W := ⟨_, rfl⟩
    rw [hw1] at hb hA
    obtain ⟨b, hbe⟩ : ∃ b, w.heap.size = b := ⟨_, rfl⟩
    rw [hbe] at hA
    obtain ⟨q0, q1, q2, q3, q4, q5⟩ := hA.cells
    replace hb := Box.mk hb
    replace hA := Box.mk hA
    have h2 := h1.out w1 hb.out
    go_enter Tryd.func12, Tryd.ntmps12
    go_wp2_with fail
    refine h2.mono ?_
    clear h2
    rintro e w2 ⟨rfl, hb2⟩
    replace hA := Box.mk (hA.out.here hb2)
    replace hb := Box.mk (mono_bel hb.out hb2 (Nat.le_refl _))
    clear hb2 q0 q1 q2 q3 q4 q5
    try clear hw1
    obtain ⟨q0, q1, q2, q3, q4, q5⟩ := hA.out.cells
    go_wp2_with fail
    go_returns
    exact ⟨rfl, by first | exact hb.out | exact hbe ▸ hb.out⟩
  · obtain ⟨hT, hI⟩ := leafT_yes hB
    obtain ⟨f1, f2, f3⟩ := chk_fits hB
    obtain ⟨g1, g2⟩ := chk_32 hB
    obtain ⟨n1, n2, n3, n4, n5⟩ := num_sz (chk_num hB)
    obtain ⟨_, _, n6, n7⟩ := chk_sz hB
    rw [hI] at h1 ⊢
    rw [hT]
    clear hB hT hI hP hF n5
    have l1 := Pk.beN_length v.toNat 1
    have l2 := Pk.beN_length s.toNat 4
    have l3 := Pk.beN_length c.toNat 2
    have e1 : Box (leafL v s c h t = [] ++ Pk.beN v.toNat 1 ++ Pk.beN s.toNat 4 ++ Pk.beN c.toNat 2 ++ h.data.toList ++ t.data.toList) := ⟨rfl⟩
    have c1 := Box.mk fun b g w' (hX : BX w 57 b [] g v s c h t (.slice a n k) w') => hX.step fun u h1 => xnum_any' 1 b u _ v w' h1 (by simp) f1 (by omega) (by omega)
    have c2 := Box.mk fun b g w' (hX : BX w 57 b ([] ++ Pk.beN v.toNat 1) g v s c h t (.slice a n k) w') => hX.step fun u h1 => xnum_any' 4 b u _ s w' h1 (by simp [l1]) f2 (by omega) (by omega)
    have c3 := Box.mk fun b g w' (hX : BX w 57 b ([] ++ Pk.beN v.toNat 1 ++ Pk.beN s.toNat 4) g v s c h t (.slice a n k) w') => hX.step fun u h1 => xnum_any' 2 b u _ c w' h1 (by simp [l1, l2]) f3 (by omega) (by omega)
    have c4 := Box.mk fun b g w' (hX : BX w 57 b ([] ++ Pk.beN v.toNat 1 ++ Pk.beN s.toNat 4 ++ Pk.beN c.toNat 2) g v s c h t (.slice a n k) w') => hX.step fun u h1 => xhash_any' b u _ h w' h1 (by simp [l1, l2, l3]) g1
    have c5 := Box.mk fun b g w' (hX : BX w 57 b ([] ++ Pk.beN v.toNat 1 ++ Pk.beN s.toNat 4 ++ Pk.beN c.toNat 2 ++ h.data.toList) g v s c h t (.slice a n k) w') => hX.step fun u h1 => xhash_any' b u _ t w' h1 (by simp [l1, l2, l3, Pk.data_len, g1]) g2
    obtain ⟨L, hL⟩ : ∃ L, leafL v s c h t = L := ⟨_, rfl⟩
    rw [hL] at e1 ⊢
    rw [← e1.out] at c5
    obtain ⟨L1, hL1⟩ : ∃ L, ([] : List UInt8) ++ Pk.beN v.toNat 1 = L := ⟨_, rfl⟩
    rw [hL1] at c1 c2 c3 c4 c5
    obtain ⟨L2, hL2⟩ : ∃ L, L1 ++ Pk.beN s.toNat 4 = L := ⟨_, rfl⟩
    rw [hL2] at c2 c3 c4 c5
    obtain ⟨L3, hL3⟩ : ∃ L, L2 ++ Pk.beN c.toNat 2 = L := ⟨_, rfl⟩
    rw [hL3] at c3 c4 c5
    obtain ⟨L4, hL4⟩ : ∃ L, L3 ++ h.data.toList = L := ⟨_, rfl⟩
    rw [hL4] at c4 c5
    clear l1 l2 l3 e1 hL hL1 hL2 hL3 hL4 f1 f2 f3 g1 g2 n1 n2 n3 n4 n6 n7
    have hb := bel_alloc w (.cells #[.int .i64 v, .int .i64 s, .int .i64 c, .string h, .string t, .slice a n k] 25)
    have hA := BAt.new w v s c h t (.slice a n k)
    obtain ⟨w1, hw1⟩ : ∃ W, w.alloc (.cells #[.int .i64 v, .int .i64 s, .int .i64 c, .string h, .string t, .slice a n k] 25) = W := ⟨_, rfl⟩
    rw [hw1] at hb hA
    obtain ⟨b, hbe⟩ : ∃ b, w.heap.size = b := ⟨_, rfl⟩
    rw [hbe] at hA
    obtain ⟨q0, q1, q2, q3, q4, q5⟩ := hA.cells
    replace hb := Box.mk hb
    replace hA := Box.mk hA
    have h2 := h1.out w1 hb.out
    go_enter Tryd.func12, Tryd.ntmps12
    go_wp2_with fail
    refine h2.mono ?_
    clear h2
    rintro e w2 ⟨rfl, hb2⟩
    replace hA := Box.mk (hA.out.here hb2)
    replace hb := Box.mk (mono_bel hb.out hb2 (Nat.le_refl _))
    clear hb2 q0 q1 q2 q3 q4 q5
    try clear hw1
    obtain ⟨q0, q1, q2, q3, q4, q5⟩ := hA.out.cells
    have hX := BX.new 57 hA.out hb.out
    obtain ⟨w3, hw3⟩ : ∃ W, w2.alloc (.cells #[.slice none 0 0, .bool false] 57) = W := ⟨_, rfl⟩
    rw [hw3] at hX
    obtain ⟨d, hd⟩ : ∃ d, w2.heap.size = d := ⟨_, rfl⟩
    rw [hd] at hX
    clear q0 q1 q2 q3 q4 q5
    obtain ⟨q0, q1, q2, q3, q4, q5⟩ := hX.bill.cells
    have h2 := c1.out d b w3 hX
    clear hA hb hX c1
    go_wp2_with fail
    refine h2.mono ?_
    clear h2 q0 q1 q2 q3 q4 q5 hw3 hd
    rintro e w4 ⟨rfl, hX⟩
    obtain ⟨q0, q1, q2, q3, q4, q5⟩ := hX.bill.cells
    have h2 := c2.out d b w4 hX
    clear c2 hX
    go_wp2_with fail
    refine h2.mono ?_
    clear h2 q0 q1 q2 q3 q4 q5
    rintro e w5 ⟨rfl, hX⟩
    obtain ⟨q0, q1, q2, q3, q4, q5⟩ := hX.bill.cells
    have h2 := c3.out d b w5 hX
    clear c3 hX
    go_wp2_with fail
    refine h2.mono ?_
    clear h2 q0 q1 q2 q3 q4 q5
    rintro e w6 ⟨rfl, hX⟩
    obtain ⟨q0, q1, q2, q3, q4, q5⟩ := hX.bill.cells
    have h2 := c4.out d b w6 hX
    clear c4 hX
    go_wp2_with fail
    refine h2.mono ?_
    clear h2 q0 q1 q2 q3 q4 q5
    rintro e w7 ⟨rfl, hX⟩
    obtain ⟨q0, q1, q2, q3, q4, q5⟩ := hX.bill.cells
    have h2 := c5.out d b w7 hX
    clear c5 hX
    go_wp2_with fail
    refine h2.mono ?_
    clear h2 q0 q1 q2 q3 q4 q5
    rintro e w8 ⟨rfl, hX⟩
    obtain ⟨u, hW, _, _⟩ := hX.out
    have h2 := Pk.xbytes_any d u L false w8 hW
    have hb := Box.mk hX.bel
    unfold Pk.bytesR at h2
    rw [if_neg (by decide)] at h2
    clear hX hW
    go_wp2_with fail
    refine h2.mono ?_
    clear h2
    rintro e w9 ⟨rfl, rfl⟩
    go_wp2_with fail
    go_returns
    exact ⟨rfl, by first | exact hb.out | exact hbe ▸ hb.out⟩
set_option maxHeartbeats 1600000 in
set_option maxRecDepth 100000 in
theorem rbytes_any (v s c : Int) (h t : ByteArray) (a : Option Addr) (n k : Nat) (l : List ByteArray) (w : World) (hP : PA w a n k l) (hF : Fit l) :
    Calls Tryd.prog 14 #[.agg #[.int .i64 v, .int .i64 s, .int .i64 c, .string h, .string t, .slice a n k]] w fun e w' => e = .returned (.tuple #[.string (bytT v s c h t l), .int .i64 (chkI v s c h t l)]) ∧ Below w.heap.size w w' := by
  have h1 := Box.mk fun w' (hx : Below w.heap.size w w') => rleaf15_any v s c h t a n k l w' (hP.here hx) hF
  have hcap := hP.cap
  have htop := hP.top
  cases hB : chkB v s c h t l
  · obtain ⟨hT, hI⟩ := bytT_no hB
    rw [hI] at h1 ⊢
    rw [hT]
    rw [(leafT_no hB).1] at h1
    clear hB hT hI hP hF
    have hb := bel_alloc w (.cells #[.int .i64 v, .int .i64 s, .int .i64 c, .string h, .string t, .slice a n k] 25)
    have hA := BAt.new w v s c h t (.slice a n k)
    obtain ⟨w1, hw1⟩ : ∃ W, w.alloc (.cells #[.int .i64 v, .int .i64 s, .int .i64 c, .string h, .string t, .slice a n k] 25) = W := ⟨_, rfl⟩
    rw [hw1] at hb hA
    obtain ⟨b, hbe⟩ : ∃ b, w.heap.size = b := ⟨_, rfl⟩
    rw [hbe] at hA
    obtain ⟨q0, q1, q2, q3, q4, q5⟩ := hA.cells
    replace hb := Box.mk hb
    replace hA := Box.mk hA
    have h2 := h1.out w1 hb.out
    go_enter Tryd.func14, Tryd.ntmps14
    go_wp2_with fail
    refine h2.mono ?_
    clear h2
    rintro e w2 ⟨rfl, hb2⟩
    replace hA := Box.mk (hA.out.here hb2)
    replace hb := Box.mk (mono_bel hb.out hb2 (Nat.le_refl _))
    clear hb2 q0 q1 q2 q3 q4 q5
    try clear hw1
    obtain ⟨q0, q1, q2, q3, q4, q5⟩ := hA.out.cells
    go_wp2_with fail
    go_loopw [4, 6] (fun v4 v6 wr => v4 = .string ⟨#[]⟩ ∧ v6 = .int .i64 0 ∧ wr = w2) (fun _ _ _ => 0)
    case atStart => exact ⟨rfl, rfl, rfl⟩
    case round =>
      obtain ⟨rfl, rfl, rfl⟩ := hrel
      by_cases h0 : (0 : Int) < (n : Int)
      · go_wp2_with fail
        go_returns
        exact ⟨rfl, by first | exact hb.out | exact hbe ▸ hb.out⟩
      · go_wp2_with fail
        go_returns
        exact ⟨rfl, by first | exact hb.out | exact hbe ▸ hb.out⟩
  · obtain ⟨hT, hI⟩ := bytT_yes hB
    obtain ⟨g1, g2⟩ := chk_32 hB
    obtain ⟨hall, hl128⟩ := chk_all hB
    rw [hI] at h1 ⊢
    rw [hT]
    rw [(leafT_yes hB).1] at h1
    have hLl : Box ((leafL v s c h t).length = 71) := ⟨leafL_len g1 g2⟩
    have hPB := Box.mk fun w' (hx : Below w.heap.size w w') => hP.here hx
    have hlen := hP.len
    have hsn := Box.mk (catL_snoc l)
    have hcl := Box.mk (catL_len l hall)
    have hlast : Box (l.take l.length = l) := ⟨List.take_length⟩
    obtain ⟨L, hLe⟩ : ∃ L, leafL v s c h t = L := ⟨_, rfl⟩
    rw [hLe] at h1 hLl ⊢
    rw [hlen] at hsn hcl hlast hl128
    have hall2 := Box.mk fun i (hi : i < n) => hall (l.getD i ByteArray.empty) (by simp [List.getD, hlen, hi])
    clear hB hT hI hP hF hLe g1 g2 hall hlen
    have hb := bel_alloc w (.cells #[.int .i64 v, .int .i64 s, .int .i64 c, .string h, .string t, .slice a n k] 25)
    have hA := BAt.new w v s c h t (.slice a n k)
    obtain ⟨w1, hw1⟩ : ∃ W, w.alloc (.cells #[.int .i64 v, .int .i64 s, .int .i64 c, .string h, .string t, .slice a n k] 25) = W := ⟨_, rfl⟩
    rw [hw1] at hb hA
    obtain ⟨b, hbe⟩ : ∃ b, w.heap.size = b := ⟨_, rfl⟩
    rw [hbe] at hA
    obtain ⟨q0, q1, q2, q3, q4, q5⟩ := hA.cells
    replace hb := Box.mk hb
    replace hA := Box.mk hA
    have h2 := h1.out w1 hb.out
    go_enter Tryd.func14, Tryd.ntmps14
    go_wp2_with fail
    refine h2.mono ?_
    clear h2
    rintro e w2 ⟨rfl, hb2⟩
    replace hA := Box.mk (hA.out.here hb2)
    replace hb := Box.mk (mono_bel hb.out hb2 (Nat.le_refl _))
    clear hb2 q0 q1 q2 q3 q4 q5
    try clear hw1
    obtain ⟨q0, q1, q2, q3, q4, q5⟩ := hA.out.cells
    have hS0 : Box ((⟨L.toArray⟩ : ByteArray) = ⟨(L ++ catL (l.take 0)).toArray⟩ ∧ Below w2.heap.size w2 w2) := ⟨by simp [catL], Below.refl _ _⟩
    obtain ⟨T0, hT0⟩ : ∃ T, (⟨L.toArray⟩ : ByteArray) = T := ⟨_, rfl⟩
    rw [hT0] at hS0 ⊢
    clear hT0
    go_wp2_with fail
    clear q0 q1 q2 q3 q4 q5
    go_loopw [4, 6] (fun v4 v6 wr => ∃ i : Nat, ∃ T : ByteArray, i ≤ n ∧ v4 = .string T ∧ v6 = .int .i64 (i : Int) ∧ Box (T = ⟨(L ++ catL (l.take i)).toArray⟩ ∧ Below w2.heap.size w2 wr)) (fun _ v6 _ => n - (intOf v6).toNat)
    case atStart => exact ⟨0, T0, by omega, rfl, rfl, hS0⟩
    case round =>
      clear hS0
      obtain ⟨i, T, hi, rfl, rfl, hS⟩ := hrel
      have hA2 := Box.mk (hA.out.here hS.out.2)
      have hb2 := Box.mk (mono_bel hb.out hS.out.2 (Nat.le_refl _))
      obtain ⟨q0, q1, q2, q3, q4, q5⟩ := hA2.out.cells
      by_cases hlt : i < n
      · have hii : (i : Int) < (n : Int) := by omega
        obtain ⟨blk, off, rfl, hblk, hcell⟩ := (hPB.out wr hb2.out).at_ (by omega)
        have hc0 := hcell i hlt
        have h32 := hall2.out i hlt
        have hsn2 := hsn.out i hlt
        have hcl2 := hcl.out i
        obtain ⟨x, hx⟩ : ∃ x, l.getD i ByteArray.empty = x := ⟨_, rfl⟩
        rw [hx] at hc0 h32 hsn2
        have hTs : T.size ≤ 71 + 32 * n := by
          rw [hS.out.1]
          show (L ++ catL (l.take i)).toArray.size ≤ _
          rw [List.size_toArray, List.length_append, hLl.out]
          omega
        have hS1 : Box (T ++ x = ⟨(L ++ catL (l.take (i + 1))).toArray⟩ ∧ Below w2.heap.size w2 wr) := ⟨by rw [hS.out.1, app_txt, hsn2, List.append_assoc], hS.out.2⟩
        clear hS hcell hblk hx hsn2 hcl2 hA2 hb2
        go_wp2_with fail
        exact ⟨⟨i + 1, T ++ x, by omega, rfl, by go_num, hS1⟩, by simp [intOf]; omega⟩
      · obtain rfl : i = n := by omega
        have hnl : ¬ (i : Int) < (i : Int) := by omega
        rw [hlast.out] at hS
        replace hS := Box.mk hS.out.1
        go_wp2_with fail
        go_returns
        exact ⟨by rw [← hS.out]; rfl, by first | exact hb2.out | exact hbe ▸ hb2.out⟩
end Go.Proofs.YtdnhpldcnmbncaaDoor.Bi

namespace Go.Proofs.YtdnhpldcnmbncaaDoor.Bi
open Go Go.RowKit Go.Proofs.YtdnhpldcnmbncaaDoor
set_option linter.all false

/-- The chunks' hashes of an image. -/
def chT (c : Nat) (x : ByteArray) (i : Nat) : ByteArray := leafH (x.extract (i * c) (min ((i + 1) * c) x.size))
def mkL (c : Nat) (x : ByteArray) (m : Nat) : List ByteArray := (List.range m).map (chT c x)
theorem mkL_len (c : Nat) (x : ByteArray) (m : Nat) : (mkL c x m).length = m := by simp [mkL]
theorem mkL_succ (c : Nat) (x : ByteArray) (m : Nat) : mkL c x (m + 1) = mkL c x m ++ [chT c x m] := by simp [mkL, List.range_succ]
theorem mkL_32 (c : Nat) (x : ByteArray) (m : Nat) : ∀ y ∈ mkL c x m, y.size = 32 := fun y hy => by
  simp only [mkL, List.mem_map] at hy
  obtain ⟨i, _, rfl⟩ := hy
  exact leafH_size _
/-- A bill that is being made, and the result's block. -/
structure MX (w0 : World) (r g : Nat) (v s c : Int) (h t : ByteArray) (x : Value) (l : List ByteArray) (w : World) : Prop where
  res : BAt w r 0 0 0 ⟨#[]⟩ ⟨#[]⟩ (.slice none 0 0)
  bill : BAt w g v s c h t x
  row : TxR w0.heap.size w x l
  ne : r ≠ g
  rb : w0.heap.size ≤ r
  gb : w0.heap.size ≤ g
  bel : Below w0.heap.size w0 w
theorem MX.here {w0 w w' : World} {r g : Nat} {v s c : Int} {h t : ByteArray} {x : Value} {l : List ByteArray} (hM : MX w0 r g v s c h t x l w) (hb : Below w.heap.size w w') : MX w0 r g v s c h t x l w' :=
  ⟨hM.res.here hb, hM.bill.here hb, hM.row.here hb, hM.ne, hM.rb, hM.gb, mono_bel hM.bel hb (Nat.le_refl _)⟩
theorem MX.apart {w0 w : World} {r g : Nat} {v s c : Int} {h t : ByteArray} {x : Value} {l : List ByteArray} (hM : MX w0 r g v s c h t x l w) : x.ownBlock ≠ some g ∧ x.ownBlock ≠ some r :=
  ⟨Pk.Row.apart (hM.row.base (Nat.zero_le _)) hM.bill (by decide), Pk.Row.apart (hM.row.base (Nat.zero_le _)) hM.res (by decide)⟩
theorem MX.set {w0 w : World} {r g : Nat} {v s c : Int} {h t : ByteArray} {x : Value} {l : List ByteArray} (hM : MX w0 r g v s c h t x l w) (j : Nat) (u : Value) {v' s' c' : Int} {h' t' : ByteArray}
    (hu : [.int .i64 v, .int .i64 s, .int .i64 c, .string h, .string t, x].set j u = [.int .i64 v', .int .i64 s', .int .i64 c', .string h', .string t', x]) : MX w0 r g v' s' c' h' t' x l (w.setCell ⟨g, j, none⟩ u) := by
  have hc : Pk.Chg (fun i => i = g) w (w.setCell ⟨g, j, none⟩ u) := (Pk.Chg.refl (fun i => i = g) w).setCell (p := ⟨g, j, none⟩) rfl u
  refine ⟨hc.blk hM.res hM.ne, ?_, hM.row.chg hc fun k hk e => hM.apart.1 (by rw [hk, e]), hM.ne, hM.rb, hM.gb, hM.bel.trans (hc.below hM.bel.size fun _ hi => hi ▸ hM.gb)⟩
  have := Pk.Blk.setCell hM.bill j u
  rw [hu] at this
  exact this
theorem MX.push {w0 w w2 : World} {r g : Nat} {v s c : Int} {h t : ByteArray} {x x' : Value} {l l' : List ByteArray} (hM : MX w0 r g v s c h t x l w) (hp : PushedT w0.heap.size w x l' x' w2) :
    BAt w2 g v s c h t x ∧ MX w0 r g v s c h t x' l' (w2.setCell ⟨g, 5, none⟩ x') := by
  have hg2 : BAt w2 g v s c h t x := hp.chg.blk hM.bill fun e => hM.apart.1 e
  have hr2 : BAt w2 r 0 0 0 ⟨#[]⟩ ⟨#[]⟩ (.slice none 0 0) := hp.chg.blk hM.res fun e => hM.apart.2 e
  have hv2 : x'.ownBlock ≠ some g := Pk.Row.apart (hp.row.base (Nat.zero_le _)) hg2 (by decide)
  have hc : Pk.Chg (fun i => i = g) w2 (w2.setCell ⟨g, 5, none⟩ x') := (Pk.Chg.refl (fun i => i = g) w2).setCell (p := ⟨g, 5, none⟩) rfl x'
  have hbel : Below w0.heap.size w0 w2 := hp.bel hM.bel hM.row
  exact ⟨hg2, hc.blk hr2 hM.ne, Pk.Blk.setCell hg2 5 x', hp.row.chg hc fun k hk e => hv2 (by rw [hk, e]), hM.ne, hM.rb, hM.gb, hbel.trans (hc.below hbel.size fun _ hi => hi ▸ hM.gb)⟩
theorem txPA {B : Nat} {w : World} {a : Option Addr} {n c : Nat} {ids : List ByteArray} (h : TxR B w (.slice a n c) ids) (hn : ids.length = n) : PA w a n c ids := by
  have hp := h.parts
  obtain ⟨hx, ⟨h1, h0⟩ | ⟨g, cap, cur, h1, b1, hg, b2, b3, b4⟩⟩ := h
  · cases h1
    exact ⟨hn, Nat.zero_le _, Nat.zero_le _, fun h => by omega⟩
  · cases h1
    refine ⟨hn, by omega, by unfold maxLen at b3; omega, fun h0 => ?_⟩
    obtain ⟨a2, c2, e2, hh⟩ := hp.ex
    cases e2
    have := hh (by omega)
    rw [hn] at this
    exact this
/-- A bill stored over another. -/
def put6 (w : World) (r : Nat) (v s c : Int) (h t : ByteArray) (x : Value) : World :=
  (((((w.setCell ⟨r, 0, none⟩ (.int .i64 v)).setCell ⟨r, 1, none⟩ (.int .i64 s)).setCell ⟨r, 2, none⟩ (.int .i64 c)).setCell ⟨r, 3, none⟩ (.string h)).setCell ⟨r, 4, none⟩ (.string t)).setCell ⟨r, 5, none⟩ x
theorem BAt.put {w : World} {r : Nat} {v s c v' s' c' : Int} {h t h' t' : ByteArray} {x x' : Value} (hA : BAt w r v s c h t x) : BAt (put6 w r v' s' c' h' t' x') r v' s' c' h' t' x' ∧ Pk.Chg (fun i => i = r) w (put6 w r v' s' c' h' t' x') :=
  ⟨Pk.Blk.setCell (Pk.Blk.setCell (Pk.Blk.setCell (Pk.Blk.setCell (Pk.Blk.setCell (Pk.Blk.setCell hA 0 _) 1 _) 2 _) 3 _) 4 _) 5 _, (((((Pk.Chg.refl (fun i => i = r) w).setCell (p := ⟨r, 0, none⟩) rfl _).setCell (p := ⟨r, 1, none⟩) rfl _).setCell (p := ⟨r, 2, none⟩) rfl _).setCell (p := ⟨r, 3, none⟩) rfl _).setCell (p := ⟨r, 4, none⟩) rfl _ |>.setCell (p := ⟨r, 5, none⟩) rfl _⟩
theorem MX.fin {w0 w : World} {r g : Nat} {v s c v' s' c' : Int} {h t h' t' : ByteArray} {x x' : Value} {l : List ByteArray} (hM : MX w0 r g v s c h t x l w) :
    BAt (put6 w r v' s' c' h' t' x') r v' s' c' h' t' x' ∧ TxR w0.heap.size (put6 w r v' s' c' h' t' x') x l ∧ Below w0.heap.size w0 (put6 w r v' s' c' h' t' x') := by
  obtain ⟨h1, h2⟩ := hM.res.put (v' := v') (s' := s') (c' := c') (h' := h') (t' := t') (x' := x')
  exact ⟨h1, hM.row.chg h2 fun k hk e => hM.apart.2 (by rw [hk, e]), hM.bel.trans (h2.below hM.bel.size fun _ hi => hi ▸ hM.rb)⟩
theorem BAt.frees {w : World} {b : Nat} {v s c : Int} {h t : ByteArray} {x : Value} (hA : BAt w b v s c h t x) :
    w.frozen? ⟨b, 0, none⟩ = false ∧ w.frozen? ⟨b, 1, none⟩ = false ∧ w.frozen? ⟨b, 2, none⟩ = false ∧ w.frozen? ⟨b, 3, none⟩ = false ∧ w.frozen? ⟨b, 4, none⟩ = false ∧ w.frozen? ⟨b, 5, none⟩ = false :=
  ⟨Pk.Blk.free hA 0, Pk.Blk.free hA 1, Pk.Blk.free hA 2, Pk.Blk.free hA 3, Pk.Blk.free hA 4, Pk.Blk.free hA 5⟩
theorem cutN_nat {v c : Int} {S : Nat} {m : Nat} (hn : numB v S c = true) (hm : cntI S c = (m : Int)) {i : Nat} (hi : i < m) : ∃ C : Nat, c = (C : Int) ∧ 64 ≤ C ∧ C ≤ 1024 ∧ m ≤ 128 ∧ i * C < S ∧ i * C ≤ min ((i + 1) * C) S ∧ min ((i + 1) * C) S ≤ S ∧ i * C ≤ 132096 ∧ (i : Int) * c = ((i * C : Nat) : Int) ∧ min (((i : Int) + 1) * c) (S : Int) = ((min ((i + 1) * C) S : Nat) : Int) := by
  obtain ⟨_, _, h1, h2, h3⟩ := num_sz hn
  have hs := sz_cases h3
  obtain ⟨m', hm', m1, m2, m3, m4⟩ := cnt_nat hn
  obtain rfl : m' = m := by omega
  refine ⟨c.toNat, by omega, by omega, by omega, m2, ?_⟩
  rcases hs with rfl | rfl | rfl | rfl | rfl <;> (simp only [show (64 : Int).toNat = 64 from rfl, show (128 : Int).toNat = 128 from rfl, show (256 : Int).toNat = 256 from rfl, show (512 : Int).toNat = 512 from rfl, show (1024 : Int).toNat = 1024 from rfl]; omega)
/-- What a call that answers a bill answers. -/
def BilIs (v s c : Int) (h t : ByteArray) (l : List ByteArray) (er : Int) (w : World) (e : Ending) (w' : World) : Prop :=
  ∃ x, e = .returned (.tuple #[.agg #[.int .i64 v, .int .i64 s, .int .i64 c, .string h, .string t, x], .int .i64 er]) ∧ TxR w.heap.size w' x l ∧ Below w.heap.size w w'
/-- An image's bill, or none. -/
def mkIs (v c : Int) (x : ByteArray) (w : World) (e : Ending) (w' : World) : Prop :=
  (numB v x.size c = true → BilIs v x.size c (hashOf x.data.toList) (rootL (mkL c.toNat x (cntI x.size c).toNat)) (mkL c.toNat x (cntI x.size c).toNat) 0 w e w') ∧
  (numB v x.size c = false → BilIs 0 0 0 ⟨#[]⟩ ⟨#[]⟩ [] 1 w e w')
set_option maxHeartbeats 3200000 in
set_option maxRecDepth 100000 in
theorem make_any (v c : Int) (x : ByteArray) (w : World) (hK : KIs w) (hx : x.size ≤ 140737488354000) :
    Calls Tryd.prog 8 #[.int .i64 v, .int .i64 c, .string x] w (mkIs v c x w) := by
  have hz : Box (BAt (w.alloc (.cells #[.int .i64 0, .int .i64 0, .int .i64 0, .string ⟨#[]⟩, .string ⟨#[]⟩, .slice none 0 0] 25)) w.heap.size 0 0 0 ⟨#[]⟩ ⟨#[]⟩ (.slice none 0 0)) := ⟨BAt.new w _ _ _ _ _ _⟩
  have hKB := Box.mk fun w' (hx : Below w.heap.size w w') => (hK.below hx hK.lt : KIs w')
  have hbz := Box.mk (bel_alloc w (.cells #[.int .i64 0, .int .i64 0, .int .i64 0, .string ⟨#[]⟩, .string ⟨#[]⟩, .slice none 0 0] 25))
  obtain ⟨w1, hw1⟩ : ∃ W, w.alloc (.cells #[.int .i64 0, .int .i64 0, .int .i64 0, .string ⟨#[]⟩, .string ⟨#[]⟩, .slice none 0 0] 25) = W := ⟨_, rfl⟩
  rw [hw1] at hz hbz
  obtain ⟨r, hr⟩ : ∃ r, w.heap.size = r := ⟨_, rfl⟩
  have hM0 : MX w w.heap.size w1.heap.size v x.size c ⟨#[]⟩ ⟨#[]⟩ (.slice none 0 0) [] (w1.alloc (.cells #[.int .i64 v, .int .i64 x.size, .int .i64 c, .string ⟨#[]⟩, .string ⟨#[]⟩, .slice none 0 0] 25)) :=
    ⟨hz.out.here (bel_alloc _ _), BAt.new w1 _ _ _ _ _ _, TxR.nil _ _, (fun e => by have := Pk.Blk.lt hz.out; omega), Nat.le_refl _, hbz.out.size, mono_bel hbz.out (bel_alloc _ _) (Nat.le_refl _)⟩
  rw [hr] at hM0
  have h2 := numbers_any v x.size c ⟨#[]⟩ ⟨#[]⟩ none 0 0 (w1.alloc (.cells #[.int .i64 v, .int .i64 x.size, .int .i64 c, .string ⟨#[]⟩, .string ⟨#[]⟩, .slice none 0 0] 25))
  obtain ⟨g, hg⟩ : ∃ g, w1.heap.size = g := ⟨_, rfl⟩
  rw [hg] at hM0
  replace hM0 := Box.mk hM0
  clear hz hbz hK
  cases hN : numB v x.size c
  · have hN2 := Box.mk hN
    rw [hN] at h2
    clear hN
    go_enter Tryd.func8, Tryd.ntmps8
    go_wp2_with fail
    refine h2.mono ?_
    clear h2
    rintro e w3 ⟨rfl, hb3⟩
    have hM := Box.mk (hM0.out.here hb3)
    clear hM0 hb3 hw1 hg
    obtain ⟨q0, q1, q2, q3, q4, q5⟩ := hM.out.res.cells
    obtain ⟨f0, f1, f2, f3, f4, f5⟩ := hM.out.res.frees
    go_wp2_with fail
    obtain ⟨k1, k2, k3⟩ := hM.out.fin (v' := 0) (s' := 0) (c' := 0) (h' := ⟨#[]⟩) (t' := ⟨#[]⟩) (x' := .slice none 0 0)
    show bodyPost _ _ _ _ _ (put6 w3 r 0 0 0 ⟨#[]⟩ ⟨#[]⟩ (.slice none 0 0))
    clear q0 q1 q2 q3 q4 q5 f0 f1 f2 f3 f4 f5
    obtain ⟨q0, q1, q2, q3, q4, q5⟩ := k1.cells
    obtain ⟨W, hW⟩ : ∃ W, put6 w3 r 0 0 0 ⟨#[]⟩ ⟨#[]⟩ (.slice none 0 0) = W := ⟨_, rfl⟩
    rw [hW] at q0 q1 q2 q3 q4 q5 k2 k3 ⊢
    refine bodyPost_ret (v := .tuple #[.agg #[.int .i64 0, .int .i64 0, .int .i64 0, .string ⟨#[]⟩, .string ⟨#[]⟩, .slice none 0 0], .int .i64 1]) (by simp [results, Tryd.results8, go_sem, q0, q1, q2, q3, q4, q5]; try rfl) rfl ⟨fun h => (by rw [hN2.out] at h; cases h), fun _ => ⟨_, rfl, k2, k3⟩⟩
  · have hN2 := Box.mk hN
    rw [hN] at h2
    obtain ⟨m, hm, hm1, hm2, _, _⟩ := cnt_nat hN
    obtain ⟨_, _, n1, n2, n3⟩ := num_sz hN
    have hcs := sz_cases n3
    have hc0 : 64 ≤ c := by omega
    have hc1 : c ≤ 1024 := by omega
    have hct := Box.mk fun w' => count_any v x.size c ⟨#[]⟩ ⟨#[]⟩ none 0 0 w' m hN hm
    have hmB := Box.mk hm
    have hcn := Box.mk fun i (hi : i < m) => cutN_nat hN hm hi
    clear hN hm hcs n3
    go_enter Tryd.func8, Tryd.ntmps8
    go_wp2_with fail
    refine h2.mono ?_
    clear h2
    rintro e w3 ⟨rfl, hb3⟩
    have hM := Box.mk (hM0.out.here hb3)
    clear hM0 hb3 hw1 hg
    obtain ⟨q0, q1, q2, q3, q4, q5⟩ := hM.out.bill.cells
    have h2 := hct.out w3
    clear hct
    go_wp2_with fail
    refine h2.mono ?_
    clear h2 q0 q1 q2 q3 q4 q5
    rintro e w4 ⟨rfl, hb4⟩
    have hS0 : Box (∃ y, MX w r g v x.size c ⟨#[]⟩ ⟨#[]⟩ y (mkL c.toNat x 0) w4) := ⟨_, hM.out.here hb4⟩
    clear hM hb4
    go_wp2_with fail
    go_loopw [23] (fun q wr => ∃ i : Nat, i ≤ m ∧ q = .int .i64 (i : Int) ∧ Box (∃ y, MX w r g v x.size c ⟨#[]⟩ ⟨#[]⟩ y (mkL c.toNat x i) wr)) (fun q _ => m - (intOf q).toNat)
    case atStart => exact ⟨0, by omega, rfl, hS0⟩
    case round =>
      clear hS0
      obtain ⟨i, hi, rfl, hS⟩ := hrel
      obtain ⟨y, hM⟩ := hS.out
      clear hS
      by_cases hlt : i < m
      · have hii : (i : Int) < (m : Int) := by omega
        obtain ⟨C, hC, z0, z1, z2, z3, z4, z5, z6, z7, z8⟩ := hcn.out i hlt
        have hCt : c.toNat = C := by omega
        have hsc := mkL_succ c.toNat x i
        have hch : chT c.toNat x i = leafH (x.extract (i * C) (min ((i + 1) * C) x.size)) := by rw [hCt]; rfl
        rw [hch] at hsc
        have hll := mkL_len c.toNat x i
        obtain ⟨F, hF⟩ : ∃ F, i * C = F := ⟨_, rfl⟩
        obtain ⟨T, hT⟩ : ∃ T, min ((i + 1) * C) x.size = T := ⟨_, rfl⟩
        obtain ⟨a, k, rfl⟩ := hM.row.shape
        rw [hll] at hM
        have h2 := ucut_any v x.size c (i : Int) ⟨#[]⟩ ⟨#[]⟩ a i k wr hc0 hc1 (by omega) (by omega) (by omega) n2
        rw [z7, z8] at h2
        rw [hF] at z3 z4 z6 h2 hsc
        rw [hT] at z4 z5 h2 hsc
        obtain ⟨q0, q1, q2, q3, q4, q5⟩ := hM.bill.cells
        have hLf := Box.mk fun w' (hx : Below w.heap.size w w') => tleaf_any (x.extract F T) w' (hKB.out w' hx) (by rw [ByteArray.size_extract]; omega)
        obtain ⟨y, hy⟩ : ∃ y, leafH (x.extract F T) = y := ⟨_, rfl⟩
        rw [hy] at hLf hsc
        have hb0 := Box.mk hM.bel
        replace hM := Box.mk hM
        replace hsc := Box.mk hsc
        replace hll := Box.mk hll
        clear hC z0 z1 z2 z7 z8 hCt hch hF hT hy
        go_wp2_with fail
        refine h2.mono ?_
        clear h2 q0 q1 q2 q3 q4 q5
        rintro e w5 ⟨rfl, hb5⟩
        replace hM := Box.mk (hM.out.here hb5)
        replace hb0 := Box.mk (mono_bel hb0.out hb5 (Nat.le_refl _))
        clear hb5
        have kB := Box.mk fun w' (hb : Below w5.heap.size w5 w') => (hM.out.here hb).bill
        have k5 := Box.mk fun w' (hb : BAt w' g v x.size c ⟨#[]⟩ ⟨#[]⟩ (.slice a i k)) => hb.cells.2.2.2.2.2
        go_wp2_with fail
        refine region_sC (fun w' => BAt w' g v x.size c ⟨#[]⟩ ⟨#[]⟩ (.slice a i k)) (fun w' => Below w5.heap.size w5 w') (fun w w' => w = w') rfl (dB w5) ?_
        refine anyS_calms [0, 1, 2, 3, 4, 5] 5 rfl (fun _ => rfl) (stE kB.out) (by kernel_rfl) (by kernel_rfl) (by kernel_rfl) ?_
        simp [nth]
        try simp only [Act.put, List.setIfInBounds_toArray, List.set_cons_succ, List.set_cons_zero]
        repeat (go_big_quiet_step (first | exact fun _ => rfl | rfl))
        refine quiet_val rfl (.slice a i k) (fun w' hw' => by have h3 := k5.out w' hw'; go_simp) ?_
        simp only [Act.put, List.setIfInBounds_toArray, List.set_cons_succ, List.set_cons_zero]
        repeat (go_big_quiet_step (first | exact fun _ => rfl | rfl))
        refine wpQuiet_nil ?_
        refine anyS_forced 6 (by kernel_rfl) rfl rfl (fun wa hWa K hK => ?_)
        have hFc := hLf.out wa (mono_bel hb0.out hWa (Nat.le_refl _))
        have hA2 := Box.mk (hM.out.here hWa)
        go_simp
        refine hFc.mono ?_
        rintro e wb ⟨rfl, hb⟩
        have hA3 := Box.mk (hA2.out.here hb)
        refine hK _ _ (fun w' => w' = wb) (stE fun w' e => e ▸ hA3.out.bill) rfl ?_
        clear hK K hFc hWa hb hLf hA2 hM
        refine anyS_forced 7 (by kernel_rfl) rfl rfl (fun wc hWc K hK => ?_)
        subst hWc
        have hz := Box.mk (parts_new wc [y] 9)
        have hA4 := Box.mk (hA3.out.here (bel_alloc wc (.cells #[.string y] 9)))
        go_simp
        refine hK _ _ (fun w' => w' = wc.alloc (.cells #[.string y] 9)) (stE fun w' e => e ▸ hA4.out.bill) rfl ?_
        clear hK K hA3
        refine anyS_forced 8 (by kernel_rfl) rfl rfl (fun wd hWd K hK => ?_)
        subst hWd
        refine wp_pushT (.tmp 33) (.tmp 39) rfl w.heap.size _ _ [y] rfl hA4.out.row hA4.out.bel.size (some ⟨wc.heap.size, 0, none⟩) 1 1 rfl rfl hz.out (by rw [hll.out]; omega) ?_
        intro v' w6 hp5
        obtain ⟨hE1, hE2⟩ := hA4.out.push hp5
        have hE := Box.mk hE1
        have hA6 := Box.mk hE2
        refine hK _ _ (fun w' => w' = w6) (stE fun w' e => e ▸ hE.out) rfl ?_
        clear hK K hp5 hz hA4 hE1 hE2
        refine anyS_calms [9] 1 rfl (fun _ => rfl) (stE fun w' e => e ▸ hE.out) (by kernel_rfl) (by kernel_rfl) (by kernel_rfl) ?_
        simp [nth]
        try simp only [Act.put, List.setIfInBounds_toArray, List.set_cons_succ, List.set_cons_zero]
        repeat (go_big_quiet_step (first | exact fun _ => rfl | rfl))
        refine wpQuiet_nil ?_
        refine anyS_last 10 (by kernel_rfl) rfl rfl (by kernel_rfl) (by kernel_rfl) (fun we hWe K hK => ?_)
        subst hWe
        have q5 := hE.out.cells.2.2.2.2.2
        have f5 := hE.out.frees.2.2.2.2.2
        rw [← hsc.out] at hA6
        have hS : Box (∃ y, MX w r g v x.size c ⟨#[]⟩ ⟨#[]⟩ y (mkL c.toNat x (i + 1)) (we.setCell ⟨g, 5, none⟩ v')) := ⟨⟨_, hA6.out⟩⟩
        obtain ⟨va, vc, rfl⟩ := hA6.out.row.shape
        rw [mkL_len] at hS ⊢
        obtain ⟨W5, hW5⟩ : ∃ W, we.setCell ⟨g, 5, none⟩ (.slice va (i + 1) vc) = W := ⟨_, rfl⟩
        rw [hW5] at hS
        go_simp
        refine hK _ _ ?_
        clear hK K q5 f5 hE hA6
        go_wp2_with fail
        exact ⟨⟨i + 1, by omega, by go_num, hS⟩, by simp [intOf]; omega⟩
      · obtain rfl : i = m := by omega
        have hnl : ¬ (i : Int) < (i : Int) := by omega
        have hll := mkL_len c.toNat x i
        have h32 := mkL_32 c.toNat x i
        obtain ⟨L, hL⟩ : ∃ L, mkL c.toNat x i = L := ⟨_, rfl⟩
        rw [hL] at hll h32 hM
        obtain ⟨a, k, rfl⟩ := hM.row.shape
        rw [hll] at hM
        have h2 := sum_one x wr (hKB.out wr hM.bel) (by omega)
        obtain ⟨H, hH⟩ : ∃ H, hashOf x.data.toList = H := ⟨_, rfl⟩
        rw [hH] at h2
        obtain ⟨R, hR⟩ : ∃ R, rootL L = R := ⟨_, rfl⟩
        replace hM := Box.mk hM
        have hFit := Box.mk (fit32 h32)
        replace hll := Box.mk hll
        replace hL := Box.mk hL
        replace hH := Box.mk hH
        replace hR := Box.mk hR
        clear h32 hcn
        go_wp2_with fail
        refine h2.mono ?_
        clear h2
        rintro e w5 ⟨rfl, hb5⟩
        replace hM := Box.mk (hM.out.here hb5)
        clear hb5
        obtain ⟨q0, q1, q2, q3, q4, q5⟩ := hM.out.bill.cells
        obtain ⟨f0, f1, f2, f3, f4, f5⟩ := hM.out.bill.frees
        have hM2 := Box.mk (hM.out.set 3 (.string H) (h' := H) (t' := ⟨#[]⟩) (v' := v) (s' := x.size) (c' := c) rfl)
        obtain ⟨w6, hw6⟩ : ∃ W, w5.setCell ⟨g, 3, none⟩ (.string H) = W := ⟨_, rfl⟩
        rw [hw6] at hM2
        have p5 := hM2.out.bill.cells.2.2.2.2.2
        have h2 := root_any i L a k w6 (txPA hM2.out.row hll.out) (hKB.out w6 hM2.out.bel) hFit.out
        rw [hR.out] at h2
        clear hM f0 f1 f2 f4 f5 q0 q1 q2 q4 q5
        go_wp2_with fail
        refine h2.mono ?_
        clear h2 p5 hw6 f3 q3
        rintro e w7 ⟨rfl, hb7⟩
        replace hM := Box.mk (hM2.out.here hb7)
        clear hb7 hM2
        obtain ⟨q0, q1, q2, q3, q4, q5⟩ := hM.out.bill.cells
        obtain ⟨f0, f1, f2, f3, f4, f5⟩ := hM.out.bill.frees
        have hM2 := Box.mk (hM.out.set 4 (.string R) (h' := H) (t' := R) (v' := v) (s' := x.size) (c' := c) rfl)
        obtain ⟨w8, hw8⟩ : ∃ W, w7.setCell ⟨g, 4, none⟩ (.string R) = W := ⟨_, rfl⟩
        rw [hw8] at hM2
        clear q0 q1 q2 q3 q5 f0 f1 f2 f3 f5 hM
        obtain ⟨q0, q1, q2, q3, p4, q5⟩ := hM2.out.bill.cells
        obtain ⟨g0, g1, g2, g3, g4, g5⟩ := hM2.out.res.frees
        obtain ⟨r0, r1, r2, r3, r4, r5⟩ := hM2.out.res.cells
        go_wp2_with fail
        obtain ⟨k1, k2, k3⟩ := hM2.out.fin (v' := v) (s' := x.size) (c' := c) (h' := H) (t' := R) (x' := .slice a i k)
        show bodyPost _ _ _ _ _ (put6 w8 r v x.size c H R (.slice a i k))
        clear q0 q1 q2 q3 q4 q5 f4 g0 g1 g2 g3 g4 g5 r0 r1 r2 r3 r4 r5 hw8
        obtain ⟨q0, q1, q2, q3, q4, q5⟩ := k1.cells
        obtain ⟨W, hW⟩ : ∃ W, put6 w8 r v x.size c H R (.slice a i k) = W := ⟨_, rfl⟩
        rw [hW] at q0 q1 q2 q3 q4 q5 k2 k3 ⊢
        refine bodyPost_ret (v := .tuple #[.agg #[.int .i64 v, .int .i64 x.size, .int .i64 c, .string H, .string R, .slice a i k], .int .i64 0]) (by simp [results, Tryd.results8, go_sem, q0, q1, q2, q3, q4, q5]; try rfl) rfl ⟨fun _ => ?_, fun h => (by rw [hN2.out] at h; cases h)⟩
        rw [hmB.out, Int.toNat_natCast, hL.out, hH.out, hR.out]
        exact ⟨_, rfl, k2, k3⟩
end Go.Proofs.YtdnhpldcnmbncaaDoor.Bi

namespace Go.Proofs.YtdnhpldcnmbncaaDoor.Bi
open Go Go.RowKit Go.Proofs.YtdnhpldcnmbncaaDoor
set_option linter.all false

theorem num_v {v s c : Int} (hv : 1 ≤ v ∧ v ≤ 255) (h : numB 1 s c = true) : numB v s c = true := by
  obtain ⟨_, _, h1, h2, h3⟩ := num_sz h
  exact num_yes ⟨hv.1, hv.2, h1, h2⟩ h3
theorem num_w {v s c : Int} (h : numB v s c = true) : numB 1 s c = true := by
  obtain ⟨_, _, h1, h2, h3⟩ := num_sz h
  exact num_yes ⟨by omega, by omega, h1, h2⟩ h3
theorem root32 (l : List ByteArray) (h : ∀ x ∈ l, x.size = 32) : (rootL l).size = 32 := by
  by_cases h2 : 2 ≤ l.length
  · rw [rootL_cut l h2, nodeH_size]
  · rcases l with _ | ⟨y, _ | ⟨z, l⟩⟩
    · rw [rootL_nil, noneH_size]
    · rw [rootL_one]; exact h y (by simp)
    · simp at h2
/-- A made bill is good. -/
theorem mk_good {v c : Int} {x : ByteArray} {m : Nat} (hn : numB v x.size c = true) (hm : cntI x.size c = (m : Int)) :
    chkB v x.size c (hashOf x.data.toList) (rootL (mkL c.toNat x m)) (mkL c.toNat x m) = true := by
  unfold chkB lstB
  rw [hn, hm, mkL_len]
  have h1 : (hashOf x.data.toList).size = 32 := hash_size _
  have h2 : (mkL c.toNat x m).all (fun y => decide (y.size = 32)) = true := by
    rw [List.all_eq_true]
    intro y hy
    simpa using mkL_32 _ _ _ y hy
  rw [h1, root32 _ (mkL_32 _ _ _), h2]
  simp
theorem mk_bad {v c : Int} {h t x : ByteArray} {l : List ByteArray} (hn : ¬ (1 ≤ v ∧ v ≤ 255)) : chkB v x.size c h t l = false := by
  unfold chkB
  rw [num_no (by omega)]; rfl
theorem i_lt {S : Nat} {c : Int} {m i : Nat} (hn : numB 1 S c = true) (hm : cntI S c = (m : Int)) : i < m ↔ ((i * c.toNat : Nat) : Int) < (S : Int) := by
  obtain ⟨m', hm', m1, m2, m3, m4⟩ := cnt_nat hn
  obtain rfl : m' = m := by omega
  obtain ⟨_, _, h1, h2, h3⟩ := num_sz hn
  rcases sz_cases h3 with rfl | rfl | rfl | rfl | rfl <;> (simp only [show (64 : Int).toNat = 64 from rfl, show (128 : Int).toNat = 128 from rfl, show (256 : Int).toNat = 256 from rfl, show (512 : Int).toNat = 512 from rfl, show (1024 : Int).toNat = 1024 from rfl]; omega)
theorem i_next {S : Nat} {c : Int} {m i : Nat} (hn : numB 1 S c = true) : ((i * c.toNat : Nat) : Int) + c = (((i + 1) * c.toNat : Nat) : Int) := by
  obtain ⟨_, _, h1, h2, h3⟩ := num_sz hn
  rcases sz_cases h3 with rfl | rfl | rfl | rfl | rfl <;> (simp only [show (64 : Int).toNat = 64 from rfl, show (128 : Int).toNat = 128 from rfl, show (256 : Int).toNat = 256 from rfl, show (512 : Int).toNat = 512 from rfl, show (1024 : Int).toNat = 1024 from rfl]; omega)
set_option maxHeartbeats 3200000 in
set_option maxRecDepth 100000 in
theorem rmake_any (v c : Int) (x : ByteArray) (w : World) (hx : x.size ≤ 140737488354000) :
    Calls Tryd.prog 9 #[.int .i64 v, .int .i64 c, .string x] w (mkIs v c x w) := by
  have hz : Box (BAt (w.alloc (.cells #[.int .i64 0, .int .i64 0, .int .i64 0, .string ⟨#[]⟩, .string ⟨#[]⟩, .slice none 0 0] 25)) w.heap.size 0 0 0 ⟨#[]⟩ ⟨#[]⟩ (.slice none 0 0)) := ⟨BAt.new w _ _ _ _ _ _⟩
  have hbz := Box.mk (bel_alloc w (.cells #[.int .i64 0, .int .i64 0, .int .i64 0, .string ⟨#[]⟩, .string ⟨#[]⟩, .slice none 0 0] 25))
  obtain ⟨w1, hw1⟩ : ∃ W, w.alloc (.cells #[.int .i64 0, .int .i64 0, .int .i64 0, .string ⟨#[]⟩, .string ⟨#[]⟩, .slice none 0 0] 25) = W := ⟨_, rfl⟩
  rw [hw1] at hz hbz
  obtain ⟨r, hr⟩ : ∃ r, w.heap.size = r := ⟨_, rfl⟩
  have hSm := rsumone x w1 (by omega)
  have hHd : Box (hashOf x.data.toList = hashOf x.data.toList) := ⟨rfl⟩
  obtain ⟨H, hH⟩ : ∃ H, hashOf x.data.toList = H := ⟨_, rfl⟩
  rw [hH] at hSm
  have hM0 : Box (∀ w2, Below w1.heap.size w1 w2 → MX w w.heap.size w2.heap.size v x.size c H ⟨#[]⟩ (.slice none 0 0) [] (w2.alloc (.cells #[.int .i64 v, .int .i64 x.size, .int .i64 c, .string H, .string ⟨#[]⟩, .slice none 0 0] 25))) :=
    ⟨fun w2 hb => ⟨(hz.out.here hb).here (bel_alloc _ _), BAt.new w2 _ _ _ _ _ _, TxR.nil _ _, (fun e => by have := Pk.Blk.lt (hz.out.here hb); omega), Nat.le_refl _, Nat.le_trans hbz.out.size hb.size, mono_bel (mono_bel hbz.out hb (Nat.le_refl _)) (bel_alloc _ _) (Nat.le_refl _)⟩⟩
  rw [hr] at hM0
  replace hH := Box.mk hH
  clear hz hbz hHd
  go_enter Tryd.func9, Tryd.ntmps9
  go_wp2_with fail
  refine hSm.mono ?_
  clear hSm
  rintro e w2 ⟨rfl, hb2⟩
  have hM := Box.mk (hM0.out w2 hb2)
  obtain ⟨g, hg⟩ : ∃ g, w2.heap.size = g := ⟨_, rfl⟩
  rw [hg] at hM
  clear hb2 hM0 hw1
  obtain ⟨q0, q1, q2, q3, q4, q5⟩ := hM.out.res.cells
  obtain ⟨f0, f1, f2, f3, f4, f5⟩ := hM.out.res.frees
  have fin0 := hM.out.fin (v' := 0) (s' := 0) (c' := 0) (h' := ⟨#[]⟩) (t' := ⟨#[]⟩) (x' := .slice none 0 0)
  replace fin0 := Box.mk fin0
  by_cases g3 : (x.size : Int) < 1
  · have hN2 : Box (numB v x.size c = false) := ⟨num_no (by omega)⟩
    go_wp2_with fail
    show bodyPost _ _ _ _ _ (put6 _ r 0 0 0 ⟨#[]⟩ ⟨#[]⟩ (.slice none 0 0))
    clear q0 q1 q2 q3 q4 q5 f0 f1 f2 f3 f4 f5 hM
    obtain ⟨k1, k2, k3⟩ := fin0.out
    clear fin0
    obtain ⟨q0, q1, q2, q3, q4, q5⟩ := k1.cells
    obtain ⟨W, hW⟩ : ∃ W, put6 (w2.alloc (.cells #[.int .i64 v, .int .i64 x.size, .int .i64 c, .string H, .string ⟨#[]⟩, .slice none 0 0] 25)) r 0 0 0 ⟨#[]⟩ ⟨#[]⟩ (.slice none 0 0) = W := ⟨_, rfl⟩
    rw [hW] at q0 q1 q2 q3 q4 q5 k2 k3 ⊢
    refine bodyPost_ret (v := .tuple #[.agg #[.int .i64 0, .int .i64 0, .int .i64 0, .string ⟨#[]⟩, .string ⟨#[]⟩, .slice none 0 0], .int .i64 1]) (by simp [results, Tryd.results9, go_sem, q0, q1, q2, q3, q4, q5]; try rfl) rfl ⟨fun h => (by rw [hN2.out] at h; cases h), fun _ => ⟨_, rfl, k2, k3⟩⟩
  by_cases g4 : (x.size : Int) > 8192
  · have hN2 : Box (numB v x.size c = false) := ⟨num_no (by omega)⟩
    go_wp2_with fail
    show bodyPost _ _ _ _ _ (put6 _ r 0 0 0 ⟨#[]⟩ ⟨#[]⟩ (.slice none 0 0))
    clear q0 q1 q2 q3 q4 q5 f0 f1 f2 f3 f4 f5 hM
    obtain ⟨k1, k2, k3⟩ := fin0.out
    clear fin0
    obtain ⟨q0, q1, q2, q3, q4, q5⟩ := k1.cells
    obtain ⟨W, hW⟩ : ∃ W, put6 (w2.alloc (.cells #[.int .i64 v, .int .i64 x.size, .int .i64 c, .string H, .string ⟨#[]⟩, .slice none 0 0] 25)) r 0 0 0 ⟨#[]⟩ ⟨#[]⟩ (.slice none 0 0) = W := ⟨_, rfl⟩
    rw [hW] at q0 q1 q2 q3 q4 q5 k2 k3 ⊢
    refine bodyPost_ret (v := .tuple #[.agg #[.int .i64 0, .int .i64 0, .int .i64 0, .string ⟨#[]⟩, .string ⟨#[]⟩, .slice none 0 0], .int .i64 1]) (by simp [results, Tryd.results9, go_sem, q0, q1, q2, q3, q4, q5]; try rfl) rfl ⟨fun h => (by rw [hN2.out] at h; cases h), fun _ => ⟨_, rfl, k2, k3⟩⟩
  have h1 := rsize_any c (w2.alloc (.cells #[.int .i64 v, .int .i64 x.size, .int .i64 c, .string H, .string ⟨#[]⟩, .slice none 0 0] 25))
  go_wp2_with fail
  refine h1.mono ?_
  clear h1
  rintro e w3 ⟨rfl, hw3⟩
  subst hw3
  cases hsz : szB c
  · have hN2 : Box (numB v x.size c = false) := ⟨num_no2 hsz⟩
    clear hsz
    go_wp2_with fail
    show bodyPost _ _ _ _ _ (put6 _ r 0 0 0 ⟨#[]⟩ ⟨#[]⟩ (.slice none 0 0))
    clear q0 q1 q2 q3 q4 q5 f0 f1 f2 f3 f4 f5 hM
    obtain ⟨k1, k2, k3⟩ := fin0.out
    clear fin0
    obtain ⟨q0, q1, q2, q3, q4, q5⟩ := k1.cells
    obtain ⟨W, hW⟩ : ∃ W, put6 (w2.alloc (.cells #[.int .i64 v, .int .i64 x.size, .int .i64 c, .string H, .string ⟨#[]⟩, .slice none 0 0] 25)) r 0 0 0 ⟨#[]⟩ ⟨#[]⟩ (.slice none 0 0) = W := ⟨_, rfl⟩
    rw [hW] at q0 q1 q2 q3 q4 q5 k2 k3 ⊢
    refine bodyPost_ret (v := .tuple #[.agg #[.int .i64 0, .int .i64 0, .int .i64 0, .string ⟨#[]⟩, .string ⟨#[]⟩, .slice none 0 0], .int .i64 1]) (by simp [results, Tryd.results9, go_sem, q0, q1, q2, q3, q4, q5]; try rfl) rfl ⟨fun h => (by rw [hN2.out] at h; cases h), fun _ => ⟨_, rfl, k2, k3⟩⟩
  have hN := num_yes (v := 1) (s := (x.size : Int)) (by omega) hsz
  obtain ⟨m, hm, hm1, hm2, _, _⟩ := cnt_nat hN
  have hcs := sz_cases hsz
  have hc0 : 64 ≤ c := by omega
  have hc1 : c ≤ 1024 := by omega
  have n2 : x.size ≤ 8192 := by omega
  have hcn := Box.mk fun i (hi : i < m) => cutN_nat hN hm hi
  have hil := Box.mk fun i => i_lt (i := i) hN hm
  have hin := Box.mk fun i => i_next (m := m) (i := i) hN
  have hNB := Box.mk hN
  have hmB := Box.mk hm
  obtain ⟨CC, hCC⟩ : ∃ CC, c.toNat = CC := ⟨_, rfl⟩
  have hCCB := Box.mk hCC
  rw [hCC] at hil hin
  have hS0 : Box (∃ y, MX w r g v x.size c H ⟨#[]⟩ y (mkL CC x 0) (w2.alloc (.cells #[.int .i64 v, .int .i64 x.size, .int .i64 c, .string H, .string ⟨#[]⟩, .slice none 0 0] 25))) := ⟨_, hM.out⟩
  have h0c : Box (0 * CC = 0) := ⟨Nat.zero_mul _⟩
  clear hN hm hcs hsz hCC q0 q1 q2 q3 q4 q5 f0 f1 f2 f3 f4 f5 fin0 hM
  go_wp2_with fail
  clear hg g3 g4
  go_loopw [9] (fun q wr => ∃ i j : Nat, i ≤ m ∧ q = .int .i64 (j : Int) ∧ Box (i * CC = j) ∧ Box (∃ y, MX w r g v x.size c H ⟨#[]⟩ y (mkL CC x i) wr)) (fun q _ => 132096 - (intOf q).toNat)
  case atStart => exact ⟨0, 0, by omega, rfl, h0c, hS0⟩
  case round =>
    clear hS0 h0c
    obtain ⟨i, j, hi, rfl, hj, hS⟩ := hrel
    obtain ⟨y, hM⟩ := hS.out
    clear hS
    have hlt0 := hil.out i
    have hnx := hin.out i
    rw [hj.out] at hlt0 hnx
    by_cases hlt : i < m
    · have hii : (j : Int) < (x.size : Int) := hlt0.1 hlt
      obtain ⟨C, hC, z0, z1, z2, z3, z4, z5, z6, z7, z8⟩ := hcn.out i hlt
      have hCt : C = CC := by rw [← hCCB.out, hC]; rfl
      subst hCt
      have hsc := mkL_succ C x i
      have hch : chT C x i = leafH (x.extract (i * C) (min ((i + 1) * C) x.size)) := rfl
      rw [hch] at hsc
      have hll := mkL_len C x i
      have hj2 : Box ((i + 1) * C = j + C) := ⟨by rw [Nat.add_mul, hj.out, Nat.one_mul]⟩
      rw [hj.out] at z3 z4 z6 hsc
      obtain ⟨T, hT⟩ : ∃ T, min ((i + 1) * C) x.size = T := ⟨_, rfl⟩
      rw [hT] at z4 z5 hsc
      have hTm : min ((j : Int) + c) (x.size : Int) = (T : Int) := by rw [hj2.out] at hT; omega
      have hjc : Box ((j : Int) + c = ((j + C : Nat) : Int)) := ⟨by omega⟩
      replace hC := Box.mk hC
      obtain ⟨a, k, rfl⟩ := hM.row.shape
      rw [hll] at hM
      have hLf := Box.mk fun w' => rleaf_any (x.extract j T) w' (by rw [ByteArray.size_extract]; omega)
      obtain ⟨y, hy⟩ : ∃ y, leafH (x.extract j T) = y := ⟨_, rfl⟩
      rw [hy] at hLf hsc
      have hb0 := Box.mk hM.bel
      replace hM := Box.mk hM
      replace hsc := Box.mk hsc
      replace hll := Box.mk hll
      have kB := Box.mk fun w' (hb : Below wr.heap.size wr w') => (hM.out.here hb).bill
      have k5 := Box.mk fun w' (hb : BAt w' g v x.size c H ⟨#[]⟩ (.slice a i k)) => hb.cells.2.2.2.2.2
      clear z0 z1 z2 z7 z8 hch hT hy hlt0 hnx
      go_wp2_with fail
      refine region_sC (fun w' => BAt w' g v x.size c H ⟨#[]⟩ (.slice a i k)) (fun w' => Below wr.heap.size wr w') (fun w w' => w = w') rfl (dB wr) ?_
      refine anyS_calms [0, 1, 2, 3, 4, 5, 6, 7, 8, 9, 10] 5 rfl (fun _ => rfl) (stE kB.out) (by kernel_rfl) (by kernel_rfl) (by kernel_rfl) ?_
      simp [nth]
      try simp only [Act.put, List.setIfInBounds_toArray, List.set_cons_succ, List.set_cons_zero]
      repeat (go_big_quiet_step (first | exact fun _ => rfl | rfl))
      refine quiet_val rfl (.slice a i k) (fun w' hw' => by have h3 := k5.out w' hw'; go_simp) ?_
      simp only [Act.put, List.setIfInBounds_toArray, List.set_cons_succ, List.set_cons_zero]
      repeat (go_big_quiet_step (first | exact fun _ => rfl | rfl))
      refine wpQuiet_nil ?_
      refine anyS_forced 11 (by kernel_rfl) rfl rfl (fun wa hWa K hK => ?_)
      have hFc := hLf.out wa
      have hA2 := Box.mk (hM.out.here hWa)
      go_simp
      refine hFc.mono ?_
      rintro e wb ⟨rfl, hb⟩
      have hA3 := Box.mk (hA2.out.here hb)
      refine hK _ _ (fun w' => w' = wb) (stE fun w' e => e ▸ hA3.out.bill) rfl ?_
      clear hK K hFc hWa hb hLf hA2 hM
      refine anyS_forced 12 (by kernel_rfl) rfl rfl (fun wc hWc K hK => ?_)
      subst hWc
      have hz := Box.mk (parts_new wc [y] 9)
      have hA4 := Box.mk (hA3.out.here (bel_alloc wc (.cells #[.string y] 9)))
      go_simp
      refine hK _ _ (fun w' => w' = wc.alloc (.cells #[.string y] 9)) (stE fun w' e => e ▸ hA4.out.bill) rfl ?_
      clear hK K hA3
      refine anyS_forced 13 (by kernel_rfl) rfl rfl (fun wd hWd K hK => ?_)
      subst hWd
      refine wp_pushT (.tmp 40) (.tmp 51) rfl w.heap.size _ _ [y] rfl hA4.out.row hA4.out.bel.size (some ⟨wc.heap.size, 0, none⟩) 1 1 rfl rfl hz.out (by rw [hll.out]; omega) ?_
      intro v' w6 hp5
      obtain ⟨hE1, hE2⟩ := hA4.out.push hp5
      have hE := Box.mk hE1
      have hA6 := Box.mk hE2
      refine hK _ _ (fun w' => w' = w6) (stE fun w' e => e ▸ hE.out) rfl ?_
      clear hK K hp5 hz hA4 hE1 hE2
      refine anyS_calms [14] 1 rfl (fun _ => rfl) (stE fun w' e => e ▸ hE.out) (by kernel_rfl) (by kernel_rfl) (by kernel_rfl) ?_
      simp [nth]
      try simp only [Act.put, List.setIfInBounds_toArray, List.set_cons_succ, List.set_cons_zero]
      repeat (go_big_quiet_step (first | exact fun _ => rfl | rfl))
      refine wpQuiet_nil ?_
      refine anyS_last 15 (by kernel_rfl) rfl rfl (by kernel_rfl) (by kernel_rfl) (fun we hWe K hK => ?_)
      subst hWe
      have q5 := hE.out.cells.2.2.2.2.2
      have f5 := hE.out.frees.2.2.2.2.2
      rw [← hsc.out] at hA6
      have hS : Box (∃ y, MX w r g v x.size c H ⟨#[]⟩ y (mkL C x (i + 1)) (we.setCell ⟨g, 5, none⟩ v')) := ⟨⟨_, hA6.out⟩⟩
      obtain ⟨va, vc, rfl⟩ := hA6.out.row.shape
      rw [mkL_len] at hS ⊢
      obtain ⟨W5, hW5⟩ : ∃ W, we.setCell ⟨g, 5, none⟩ (.slice va (i + 1) vc) = W := ⟨_, rfl⟩
      rw [hW5] at hS
      go_simp
      refine hK _ _ ?_
      clear hK K q5 f5 hE hA6
      go_wp2_with fail
      exact ⟨⟨i + 1, j + C, by omega, by rw [hjc.out], hj2, hS⟩, by have := hC.out; simp [intOf]; omega⟩
    · obtain rfl : i = m := by omega
      have hnl : ¬ (j : Int) < (x.size : Int) := fun h => hlt (hlt0.2 h)
      have hll := mkL_len CC x i
      have h32 := mkL_32 CC x i
      have hgood := Box.mk fun hv => mk_good (v := v) (c := c) (x := x) (m := i) (num_v hv hNB.out) hmB.out
      have hbad := Box.mk fun hv L R => mk_bad (v := v) (c := c) (x := x) (h := H) (l := L) (t := R) hv
      rw [hCCB.out, hH.out] at hgood
      obtain ⟨L, hL⟩ : ∃ L, mkL CC x i = L := ⟨_, rfl⟩
      rw [hL] at hll h32 hM hgood
      obtain ⟨a, k, rfl⟩ := hM.row.shape
      rw [hll] at hM
      obtain ⟨q0, q1, q2, q3, q4, q5⟩ := hM.bill.cells
      have h2 := rroot_any i L a k wr (txPA hM.row hll) (fit32 h32)
      obtain ⟨R, hR⟩ : ∃ R, rootL L = R := ⟨_, rfl⟩
      rw [hR] at h2 hgood
      replace hM := Box.mk hM
      have hFit := Box.mk (fit32 h32)
      replace hll := Box.mk hll
      replace hL := Box.mk hL
      replace hR := Box.mk hR
      clear h32 hcn hil hin hlt0 hnx hj
      go_wp2_with fail
      refine h2.mono ?_
      clear h2 q0 q1 q2 q3 q4 q5
      rintro e w7 ⟨rfl, hb7⟩
      replace hM := Box.mk (hM.out.here hb7)
      clear hb7
      obtain ⟨q0, q1, q2, q3, q4, q5⟩ := hM.out.bill.cells
      obtain ⟨f0, f1, f2, f3, f4, f5⟩ := hM.out.bill.frees
      have hM2 := Box.mk (hM.out.set 4 (.string R) (h' := H) (t' := R) (v' := v) (s' := x.size) (c' := c) rfl)
      obtain ⟨w8, hw8⟩ : ∃ W, w7.setCell ⟨g, 4, none⟩ (.string R) = W := ⟨_, rfl⟩
      rw [hw8] at hM2
      clear q0 q1 q2 q3 q5 f0 f1 f2 f3 f5 hM
      obtain ⟨q0, q1, q2, q3, p4, q5⟩ := hM2.out.bill.cells
      have h2 := rcheck_any v x.size c H R a i k L w8 (txPA hM2.out.row hll.out) hFit.out
      by_cases hv : 1 ≤ v ∧ v ≤ 255
      · have hI : chkI v x.size c H R L = 0 := by unfold chkI; rw [hgood.out hv]; rfl
        rw [hI] at h2
        have hN2 : Box (numB v x.size c = true) := ⟨num_v hv hNB.out⟩
        clear hI hv
        go_wp2_with fail
        refine h2.mono ?_
        clear h2 q0 q1 q2 q3 q4 p4 q5 f4 hw8
        rintro e w9 ⟨rfl, hb9⟩
        replace hM := Box.mk (hM2.out.here hb9)
        clear hb9 hM2
        obtain ⟨q0, q1, q2, q3, p4, q5⟩ := hM.out.bill.cells
        obtain ⟨g0, g1, g2, g3, g4, g5⟩ := hM.out.res.frees
        obtain ⟨r0, r1, r2, r3, r4, r5⟩ := hM.out.res.cells
        go_wp2_with fail
        obtain ⟨k1, k2, k3⟩ := hM.out.fin (v' := v) (s' := x.size) (c' := c) (h' := H) (t' := R) (x' := .slice a i k)
        show bodyPost _ _ _ _ _ (put6 w9 r v x.size c H R (.slice a i k))
        clear q0 q1 q2 q3 q5 p4 g0 g1 g2 g3 g4 g5 r0 r1 r2 r3 r4 r5
        obtain ⟨q0, q1, q2, q3, q4, q5⟩ := k1.cells
        obtain ⟨W, hW⟩ : ∃ W, put6 w9 r v x.size c H R (.slice a i k) = W := ⟨_, rfl⟩
        rw [hW] at q0 q1 q2 q3 q4 q5 k2 k3 ⊢
        refine bodyPost_ret (v := .tuple #[.agg #[.int .i64 v, .int .i64 x.size, .int .i64 c, .string H, .string R, .slice a i k], .int .i64 0]) (by simp [results, Tryd.results9, go_sem, q0, q1, q2, q3, q4, q5]; try rfl) rfl ⟨fun _ => ?_, fun h => (by rw [hN2.out] at h; cases h)⟩
        rw [hmB.out, Int.toNat_natCast, hCCB.out, hL.out, hH.out, hR.out]
        exact ⟨_, rfl, k2, k3⟩
      · have hI : chkI v x.size c H R L = 1 := by unfold chkI; rw [hbad.out hv L R]; rfl
        rw [hI] at h2
        have hN2 : Box (numB v x.size c = false) := ⟨num_no (by omega)⟩
        clear hI hv
        go_wp2_with fail
        refine h2.mono ?_
        clear h2 q0 q1 q2 q3 q4 p4 q5 f4 hw8
        rintro e w9 ⟨rfl, hb9⟩
        replace hM := Box.mk (hM2.out.here hb9)
        clear hb9 hM2
        obtain ⟨g0, g1, g2, g3, g4, g5⟩ := hM.out.res.frees
        obtain ⟨r0, r1, r2, r3, r4, r5⟩ := hM.out.res.cells
        go_wp2_with fail
        obtain ⟨k1, _, k3⟩ := hM.out.fin (v' := 0) (s' := 0) (c' := 0) (h' := ⟨#[]⟩) (t' := ⟨#[]⟩) (x' := .slice none 0 0)
        show bodyPost _ _ _ _ _ (put6 w9 r 0 0 0 ⟨#[]⟩ ⟨#[]⟩ (.slice none 0 0))
        clear g0 g1 g2 g3 g4 g5 r0 r1 r2 r3 r4 r5
        obtain ⟨q0, q1, q2, q3, q4, q5⟩ := k1.cells
        obtain ⟨W, hW⟩ : ∃ W, put6 w9 r 0 0 0 ⟨#[]⟩ ⟨#[]⟩ (.slice none 0 0) = W := ⟨_, rfl⟩
        rw [hW] at q0 q1 q2 q3 q4 q5 k3 ⊢
        refine bodyPost_ret (v := .tuple #[.agg #[.int .i64 0, .int .i64 0, .int .i64 0, .string ⟨#[]⟩, .string ⟨#[]⟩, .slice none 0 0], .int .i64 1]) (by simp [results, Tryd.results9, go_sem, q0, q1, q2, q3, q4, q5]; try rfl) rfl ⟨fun h => (by rw [hN2.out] at h; cases h), fun _ => ⟨_, rfl, TxR.nil _ _, k3⟩⟩
end Go.Proofs.YtdnhpldcnmbncaaDoor.Bi
