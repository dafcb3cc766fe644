/- Bills laid as bytes: Leaf and Bytes of both. | Bills made: Make of both. | Bills made: Make of the document. -/
import Derived.Test.YthkfefkcjcgfkaaGreatDoorWb1
import Derived.Test.YthkfefkcjcgfkaaGreatDoorWpk
import Derived.Test.YthkfefkcjcgfkaaGreatDoorWtr
set_option linter.all false
namespace Go.Proofs.YthkfefkcjcgfkaaGreatDoor.Bi
open Go Go.RowKit Go.Proofs.YthkfefkcjcgfkaaGreatDoor
set_option linter.all false

def leafL (v s c : Int) (h t : ByteArray) : List UInt8 := Pk.beN v.toNat 1 ++ Pk.beN s.toNat 4 ++ Pk.beN c.toNat 2 ++ h.data.toList ++ t.data.toList
def catL (l : List ByteArray) : List UInt8 := l.flatMap fun x => x.data.toList
def bytT (v s c : Int) (h t : ByteArray) (l : List ByteArray) : ByteArray := if chkB v s c h t l then ⟨(leafL v s c h t ++ catL l).toArray⟩ else ByteArray.empty
theorem leafL_len {v s c : Int} {h t : ByteArray} (hh : h.size = 32) (ht : t.size = 32) : (leafL v s c h t).length = 71 := by
  unfold leafL
  simp only [List.length_append, Pk.beN_length, Pk.data_len, hh, ht]
theorem catL_snoc (l : List ByteArray) (i : Nat) (h : i < l.length) : catL (l.take (i + 1)) = catL (l.take i) ++ (l.getD i ByteArray.empty).data.toList := by
  unfold catL
  rw [List.take_succ_eq_append_getElem h, List.flatMap_append]
  simp [List.getD, h]
theorem catL_len (l : List ByteArray) (h : ∀ x ∈ l, x.size = 32) (i : Nat) : (catL (l.take i)).length ≤ 32 * l.length := by
  have h1 : ∀ m : List ByteArray, (∀ x ∈ m, x.size = 32) → (catL m).length = 32 * m.length := by
    intro m
    induction m with
    | nil => intro _; rfl
    | cons x m ih =>
      intro hm
      unfold catL at ih ⊢
      rw [List.flatMap_cons, List.length_append, ih fun y hy => hm y (List.mem_cons_of_mem _ hy), Pk.data_len, hm x (List.mem_cons_self ..), List.length_cons]
      omega
  rw [h1 _ fun x hx => h x (List.mem_of_mem_take hx), List.length_take]
  omega
theorem chk_32 {v s c : Int} {h t : ByteArray} {l : List ByteArray} (hc : chkB v s c h t l = true) : h.size = 32 ∧ t.size = 32 := by
  unfold chkB at hc; simp only [Bool.and_eq_true, decide_eq_true_eq] at hc; exact ⟨hc.2.1, hc.2.2.1⟩
theorem chk_fits {v s c : Int} {h t : ByteArray} {l : List ByteArray} (hc : chkB v s c h t l = true) : Pk.fits v 1 = true ∧ Pk.fits s 4 = true ∧ Pk.fits c 2 = true := by
  obtain ⟨h1, h2, _⟩ := num_sz (chk_num hc)
  obtain ⟨h3, h4, h5, h6⟩ := chk_sz hc
  refine ⟨?_, ?_, ?_⟩ <;> simp [Pk.fits] <;> omega
theorem chk_all {v s c : Int} {h t : ByteArray} {l : List ByteArray} (hc : chkB v s c h t l = true) : (∀ x ∈ l, x.size = 32) ∧ l.length ≤ 128 := by
  by_cases h0 : l.length = 0
  · obtain rfl : l = [] := List.length_eq_zero_iff.1 h0
    exact ⟨fun x hx => (by cases hx), Nat.zero_le _⟩
  · obtain ⟨h1, _, h3⟩ := chk_len hc h0
    have := (cn_yes hc).2.2
    exact ⟨h3, by omega⟩
theorem chgB {S : Nat → Prop} {w w' : World} (h : Below w.heap.size w w') : Pk.Chg S w w' := (Pk.Chg.of_below h).mono fun i hi e => absurd hi (by omega)
/-- A writer that is new since w0, and a bill in its own block. -/
structure BX (w0 : World) (ty : TypeId) (b : Nat) (bs : List UInt8) (g : Nat) (v s c : Int) (h t : ByteArray) (x : Value) (w : World) : Prop where
  out : ∃ u, Pk.WAt w b ty u bs false ∧ w0.heap.size ≤ b ∧ ∀ k, u.ownBlock = some k → w0.heap.size ≤ k
  bill : BAt w g v s c h t x
  ne : g ≠ b
  bel : Below w0.heap.size w0 w
theorem BX.step {w0 : World} {ty : TypeId} {b : Nat} {bs bs2 : List UInt8} {g : Nat} {v s c : Int} {h t : ByteArray} {x r : Value} {w : World} {F : FuncId} {args : Array Value} (hX : BX w0 ty b bs g v s c h t x w)
    (hc : ∀ u, Pk.WAt w b ty u bs false → Calls Tryz.prog F args w fun e w' => e = .returned r ∧ Pk.WNext w b ty u bs2 false w') :
    Calls Tryz.prog F args w fun e w' => e = .returned r ∧ BX w0 ty b bs2 g v s c h t x w' := by
  obtain ⟨u, h1, h2, h3⟩ := hX.out
  refine (hc u h1).mono fun e w' ⟨he, hn⟩ => ⟨he, ?_⟩
  obtain ⟨u', k1, k2, k3⟩ := hn.out
  have hu : u.ownBlock ≠ some g := Pk.Own.apart h1.own hX.bill (by decide)
  refine ⟨⟨u', k1, h2, fun k hk => ?_⟩, k2.blk hX.bill fun e => ?_, hX.ne, hX.bel.trans (k2.below hX.bel.size fun i hi => ?_)⟩
  · rcases k3 k hk with e | e
    · exact h3 k e
    · exact Nat.le_trans hX.bel.size e
  · rcases e with e | e
    · exact hX.ne e
    · exact hu e
  · rcases hi with rfl | hi
    · exact h2
    · exact h3 i hi
theorem BX.new {w0 w : World} {g : Nat} {v s c : Int} {h t : ByteArray} {x : Value} (ty : TypeId) (hA : BAt w g v s c h t x) (hb : Below w0.heap.size w0 w) :
    BX w0 ty w.heap.size [] g v s c h t x (w.alloc (.cells #[.slice none 0 0, .bool false] ty)) :=
  ⟨⟨.slice none 0 0, ⟨Pk.Blk.new w [.slice none 0 0, .bool false] ty, Pk.Own.nil _⟩, hb.size, (fun k hk => by cases hk)⟩, hA.here (bel_alloc _ _), (fun e => by have := Pk.Blk.lt hA; omega), mono_bel hb (bel_alloc _ _) (Nat.le_refl _)⟩
/-- Within layLeaf: the writer, told from the call's world, and the bill in its own block. -/
structure LX (w0 : World) (ty : TypeId) (b : Nat) (u0 : Value) (bs : List UInt8) (g : Nat) (v s c : Int) (h t : ByteArray) (x : Value) (w : World) : Prop where
  out : ∃ u, Pk.WAt w b ty u bs false ∧ Pk.Chg (fun k => k = b ∨ u0.ownBlock = some k) w0 w ∧ ∀ k, u.ownBlock = some k → u0.ownBlock = some k ∨ w0.heap.size ≤ k
  bill : BAt w g v s c h t x
  ne : g ≠ b
theorem LX.step {w0 : World} {ty : TypeId} {b : Nat} {u0 : Value} {bs bs2 : List UInt8} {g : Nat} {v s c : Int} {h t : ByteArray} {x r : Value} {w : World} {F : FuncId} {args : Array Value} (hX : LX w0 ty b u0 bs g v s c h t x w)
    (hc : ∀ u, Pk.WAt w b ty u bs false → Calls Tryz.prog F args w fun e w' => e = .returned r ∧ Pk.WNext w b ty u bs2 false w') :
    Calls Tryz.prog F args w fun e w' => e = .returned r ∧ LX w0 ty b u0 bs2 g v s c h t x w' := by
  obtain ⟨u, h1, h2, h3⟩ := hX.out
  refine (hc u h1).mono fun e w' ⟨he, hn⟩ => ⟨he, ?_⟩
  have hu : u.ownBlock ≠ some g := Pk.Own.apart h1.own hX.bill (by decide)
  refine ⟨(Pk.WNext.trans h1 h2 h3 hn).out, ?_, hX.ne⟩
  obtain ⟨u', k1, k2, k3⟩ := hn.out
  refine k2.blk hX.bill fun e => ?_
  rcases e with e | e
  · exact hX.ne e
  · exact hu e
theorem hash_any' (b : Nat) (u : Value) (l : List UInt8) (s : ByteArray) (w : World) (hW : Pk.WAt w b 84 u l false) (hlen : l.length ≤ 35184372088000) (hs : s.size = 32) :
    Calls Tryz.prog 34 #[.pointer (some ⟨b, 0, none⟩), .string s] w fun e w' => e = .returned (.tuple #[]) ∧ Pk.WNext w b 84 u (l ++ s.data.toList) false w' := by
  have h1 := Pk.hash_any b u l false s w hW hlen
  rw [decide_eq_true hs] at h1
  exact h1
theorem byte_any' (b : Nat) (u : Value) (l : List UInt8) (n : Int) (w : World) (hW : Pk.WAt w b 84 u l false) (hlen : l.length ≤ 35184372088000) (hf : Pk.fits n 1 = true) :
    Calls Tryz.prog 41 #[.pointer (some ⟨b, 0, none⟩), .int .i64 n] w fun e w' => e = .returned (.tuple #[]) ∧ Pk.WNext w b 84 u (l ++ Pk.beN n.toNat 1) false w' := by
  have h1 := Pk.byte_any b u l false n w hW (by omega)
  rw [hf] at h1
  exact h1
theorem four_any' (b : Nat) (u : Value) (l : List UInt8) (n : Int) (w : World) (hW : Pk.WAt w b 84 u l false) (hlen : l.length ≤ 35184372088000) (hf : Pk.fits n 4 = true) :
    Calls Tryz.prog 67 #[.pointer (some ⟨b, 0, none⟩), .int .i64 n] w fun e w' => e = .returned (.tuple #[]) ∧ Pk.WNext w b 84 u (l ++ Pk.beN n.toNat 4) false w' := by
  have h1 := Pk.four_any b u l false n w hW (by omega)
  rw [hf] at h1
  exact h1
theorem two_any' (b : Nat) (u : Value) (l : List UInt8) (n : Int) (w : World) (hW : Pk.WAt w b 84 u l false) (hlen : l.length ≤ 35184372088000) (hf : Pk.fits n 2 = true) :
    Calls Tryz.prog 42 #[.pointer (some ⟨b, 0, none⟩), .int .i64 n] w fun e w' => e = .returned (.tuple #[]) ∧ Pk.WNext w b 84 u (l ++ Pk.beN n.toNat 2) false w' := by
  have h1 := Pk.two_any b u l false n w hW (by omega)
  rw [hf] at h1
  exact h1
set_option maxHeartbeats 1600000 in
set_option maxRecDepth 100000 in
theorem laylf_any (b : Nat) (u : Value) (v s c : Int) (h t : ByteArray) (a : Option Addr) (n k : Nat) (w : World) (hW : Pk.WAt w b 84 u [] false) (hv : Pk.fits v 1 = true) (hs : Pk.fits s 4 = true) (hc : Pk.fits c 2 = true) (hh : h.size = 32) (ht : t.size = 32) :
    Calls Tryz.prog 33 #[.pointer (some ⟨b, 0, none⟩), .agg #[.int .i64 v, .int .i64 s, .int .i64 c, .string h, .string t, .slice a n k]] w fun e w' => e = .returned (.tuple #[]) ∧ Pk.WNext w b 84 u (leafL v s c h t) false w' := by
  have hlt := Pk.Blk.lt hW.blk
  have hX : LX w 84 b u [] w.heap.size v s c h t (.slice a n k) (w.alloc (.cells #[.int .i64 v, .int .i64 s, .int .i64 c, .string h, .string t, .slice a n k] 37)) :=
    ⟨⟨u, hW.alloc _, (Pk.Chg.refl _ _).alloc _, fun k hk => .inl hk⟩, BAt.new w v s c h t (.slice a n k), by omega⟩
  obtain ⟨w1, hw1⟩ : ∃ W, w.alloc (.cells #[.int .i64 v, .int .i64 s, .int .i64 c, .string h, .string t, .slice a n k] 37) = W := ⟨_, rfl⟩
  rw [hw1] at hX
  obtain ⟨g, hg⟩ : ∃ g, w.heap.size = g := ⟨_, rfl⟩
  rw [hg] at hX
  obtain ⟨q0, q1, q2, q3, q4, q5⟩ := hX.bill.cells
  have c1 := hX.step fun u h1 => byte_any' b u _ v w1 h1 (by simp) hv
  have l1 := Pk.beN_length v.toNat 1
  have l2 := Pk.beN_length s.toNat 4
  have l3 := Pk.beN_length c.toNat 2
  have l4 : h.data.toList.length = 32 := by rw [Pk.data_len, hh]
  have l5 : t.data.toList.length = 32 := by rw [Pk.data_len, ht]
  have e1 : Box (leafL v s c h t = [] ++ Pk.beN v.toNat 1 ++ Pk.beN s.toNat 4 ++ Pk.beN c.toNat 2 ++ h.data.toList ++ t.data.toList) := ⟨rfl⟩
  have c2 := Box.mk fun w' (hX : LX w 84 b u ([] ++ Pk.beN v.toNat 1) g v s c h t (.slice a n k) w') => hX.step fun u h1 => four_any' b u _ s w' h1 (by simp [l1]) hs
  have c3 := Box.mk fun w' (hX : LX w 84 b u ([] ++ Pk.beN v.toNat 1 ++ Pk.beN s.toNat 4) g v s c h t (.slice a n k) w') => hX.step fun u h1 => two_any' b u _ c w' h1 (by simp [l1, l2]) hc
  have c4 := Box.mk fun w' (hX : LX w 84 b u ([] ++ Pk.beN v.toNat 1 ++ Pk.beN s.toNat 4 ++ Pk.beN c.toNat 2) g v s c h t (.slice a n k) w') => hX.step fun u h1 => hash_any' b u _ h w' h1 (by simp [l1, l2, l3]) hh
  have c5 := Box.mk fun w' (hX : LX w 84 b u ([] ++ Pk.beN v.toNat 1 ++ Pk.beN s.toNat 4 ++ Pk.beN c.toNat 2 ++ h.data.toList) g v s c h t (.slice a n k) w') => hX.step fun u h1 => hash_any' b u _ t w' h1 (by simp [l1, l2, l3, Pk.data_len, hh]) ht
  obtain ⟨L, hL⟩ : ∃ L, leafL v s c h t = L := ⟨_, rfl⟩
  rw [hL] at e1 ⊢
  rw [← e1.out] at c5
  obtain ⟨L1, hL1⟩ : ∃ L, ([] : List UInt8) ++ Pk.beN v.toNat 1 = L := ⟨_, rfl⟩
  rw [hL1] at c1 c2 c3 c4 c5
  obtain ⟨L2, hL2⟩ : ∃ L, L1 ++ Pk.beN s.toNat 4 = L := ⟨_, rfl⟩
  rw [hL2] at c2 c3 c4 c5
  obtain ⟨L3, hL3⟩ : ∃ L, L2 ++ Pk.beN c.toNat 2 = L := ⟨_, rfl⟩
  rw [hL3] at c3 c4 c5
  obtain ⟨L4, hL4⟩ : ∃ L, L3 ++ h.data.toList = L := ⟨_, rfl⟩
  rw [hL4] at c4 c5
  clear hX l1 l2 l3 l4 l5 e1 hL hL1 hL2 hL3 hL4 hh ht hv hs hc hW hlt
  go_enter Tryz.func33, Tryz.ntmps33
  go_wp2_with fail
  refine c1.mono ?_
  clear c1 q0 q1 q2 q3 q4 q5 hw1
  rintro e w2 ⟨rfl, hX⟩
  obtain ⟨q0, q1, q2, q3, q4, q5⟩ := hX.bill.cells
  have c1 := c2.out w2 hX
  clear c2 hX
  go_wp2_with fail
  refine c1.mono ?_
  clear c1 q0 q1 q2 q3 q4 q5
  rintro e w3 ⟨rfl, hX⟩
  obtain ⟨q0, q1, q2, q3, q4, q5⟩ := hX.bill.cells
  have c1 := c3.out w3 hX
  clear c3 hX
  go_wp2_with fail
  refine c1.mono ?_
  clear c1 q0 q1 q2 q3 q4 q5
  rintro e w4 ⟨rfl, hX⟩
  obtain ⟨q0, q1, q2, q3, q4, q5⟩ := hX.bill.cells
  have c1 := c4.out w4 hX
  clear c4 hX
  go_wp2_with fail
  refine c1.mono ?_
  clear c1 q0 q1 q2 q3 q4 q5
  rintro e w5 ⟨rfl, hX⟩
  obtain ⟨q0, q1, q2, q3, q4, q5⟩ := hX.bill.cells
  have c1 := c5.out w5 hX
  clear c5 hX
  go_wp2_with fail
  refine c1.mono ?_
  clear c1 q0 q1 q2 q3 q4 q5
  rintro e w6 ⟨rfl, hX⟩
  replace hX := Box.mk hX
  go_wp2_with fail
  go_returns
  exact ⟨rfl, ⟨hX.out.out⟩⟩
theorem bytT_yes {v s c : Int} {h t : ByteArray} {l : List ByteArray} (hc : chkB v s c h t l = true) : bytT v s c h t l = ⟨(leafL v s c h t ++ catL l).toArray⟩ ∧ chkI v s c h t l = 0 := by unfold bytT chkI; rw [hc]; exact ⟨rfl, rfl⟩
theorem bytT_no {v s c : Int} {h t : ByteArray} {l : List ByteArray} (hc : chkB v s c h t l = false) : bytT v s c h t l = ⟨#[]⟩ ∧ chkI v s c h t l = 1 := by unfold bytT chkI; rw [hc]; exact ⟨rfl, rfl⟩
set_option maxHeartbeats 1600000 in
set_option maxRecDepth 100000 in
theorem bbytes_any (v s c : Int) (h t : ByteArray) (a : Option Addr) (n k : Nat) (l : List ByteArray) (w : World) (hP : PA w a n k l) (hK : KIs w) :
    Calls Tryz.prog 9 #[.agg #[.int .i64 v, .int .i64 s, .int .i64 c, .string h, .string t, .slice a n k]] w fun e w' => e = .returned (.tuple #[.string (bytT v s c h t l), .int .i64 (chkI v s c h t l)]) ∧ Below w.heap.size w w' := by
  have h1 := Box.mk fun w' (hx : Below w.heap.size w w') => check_any v s c h t a n k l w' (hP.here hx) (hK.below hx hK.lt)
  cases hB : chkB v s c h t l
  · obtain ⟨hT, hI⟩ := bytT_no hB
    rw [hI] at h1 ⊢
    rw [hT]
    clear hB hT hI hP hK
    have hb := bel_alloc w (.cells #[.int .i64 v, .int .i64 s, .int .i64 c, .string h, .string t, .slice a n k] 37)
    have hA := BAt.new w v s c h t (.slice a n k)
    obtain ⟨w1, hw1⟩ : ∃ W, w.alloc (.cells #[.int .i64 v, .int .i64 s, .int .i64 c, .string h, .string t, .slice a n k] 37) = W := ⟨_, rfl⟩
    rw [hw1] at hb hA
    obtain ⟨b, hbe⟩ : ∃ b, w.heap.size = b := ⟨_, rfl⟩
    rw [hbe] at hA
    obtain ⟨q0, q1, q2, q3, q4, q5⟩ := hA.cells
    replace hb := Box.mk hb
    replace hA := Box.mk hA
    have h2 := h1.out w1 hb.out
    go_enter Tryz.func9, Tryz.ntmps9
    go_wp2_with fail
    refine h2.mono ?_
    clear h2
    rintro e w2 ⟨rfl, hb2⟩
    replace hA := Box.mk (hA.out.here hb2)
    replace hb := Box.mk (mono_bel hb.out hb2 (Nat.le_refl _))
    clear hb2 q0 q1 q2 q3 q4 q5
    try clear hw1
    obtain ⟨q0, q1, q2, q3, q4, q5⟩ := hA.out.cells
    go_wp2_with fail
    go_returns
    exact ⟨rfl, by first | exact hb.out | exact hbe ▸ hb.out⟩
  · obtain ⟨hT, hI⟩ := bytT_yes hB
    obtain ⟨f1, f2, f3⟩ := chk_fits hB
    obtain ⟨g1, g2⟩ := chk_32 hB
    obtain ⟨hall, hl128⟩ := chk_all hB
    rw [hI] at h1 ⊢
    rw [hT]
    have hL := Box.mk fun w' b u hW => laylf_any b u v s c h t a n k w' hW f1 f2 f3 g1 g2
    have hLl : Box ((leafL v s c h t).length = 71) := ⟨leafL_len g1 g2⟩
    have hPB := Box.mk fun w' (hx : Below w.heap.size w w') => hP.here hx
    have hcap := hP.cap
    have htop := hP.top
    have hlen := hP.len
    have hsn := Box.mk (catL_snoc l)
    have hcl := Box.mk (catL_len l hall)
    have hall2 := Box.mk fun i (hi : i < l.length) => hall (l.getD i ByteArray.empty) (by simp [List.getD, hi])
    have hlast : Box (l.take l.length = l) := ⟨List.take_length⟩
    obtain ⟨L, hLe⟩ : ∃ L, leafL v s c h t = L := ⟨_, rfl⟩
    rw [hLe] at hL hLl ⊢
    rw [hlen] at hsn hcl hall2 hlast hl128
    clear hB hT hI hP hK hLe f1 f2 f3 g1 g2 hall hlen
    have hb := bel_alloc w (.cells #[.int .i64 v, .int .i64 s, .int .i64 c, .string h, .string t, .slice a n k] 37)
    have hA := BAt.new w v s c h t (.slice a n k)
    obtain ⟨w1, hw1⟩ : ∃ W, w.alloc (.cells #[.int .i64 v, .int .i64 s, .int .i64 c, .string h, .string t, .slice a n k] 37) = W := ⟨_, rfl⟩
    rw [hw1] at hb hA
    obtain ⟨b, hbe⟩ : ∃ b, w.heap.size = b := ⟨_, rfl⟩
    rw [hbe] at hA
    obtain ⟨q0, q1, q2, q3, q4, q5⟩ := hA.cells
    replace hb := Box.mk hb
    replace hA := Box.mk hA
    have h2 := h1.out w1 hb.out
    go_enter Tryz.func9, Tryz.ntmps9
    go_wp2_with fail
    refine h2.mono ?_
    clear h2
    rintro e w2 ⟨rfl, hb2⟩
    replace hA := Box.mk (hA.out.here hb2)
    replace hb := Box.mk (mono_bel hb.out hb2 (Nat.le_refl _))
    clear hb2 q0 q1 q2 q3 q4 q5
    try clear hw1
    obtain ⟨q0, q1, q2, q3, q4, q5⟩ := hA.out.cells
    have hX := BX.new 84 hA.out hb.out
    obtain ⟨w3, hw3⟩ : ∃ W, w2.alloc (.cells #[.slice none 0 0, .bool false] 84) = W := ⟨_, rfl⟩
    rw [hw3] at hX
    obtain ⟨d, hd⟩ : ∃ d, w2.heap.size = d := ⟨_, rfl⟩
    rw [hd] at hX
    clear q0 q1 q2 q3 q4 q5
    obtain ⟨q0, q1, q2, q3, q4, q5⟩ := hX.bill.cells
    have h2 := hX.step fun u hu => hL.out w3 d u hu
    clear hA hb hX hL
    go_wp2_with fail
    refine h2.mono ?_
    clear h2 hw3 hd q0 q1 q2 q3 q4 q5
    rintro e w4 ⟨rfl, hX⟩
    obtain ⟨q0, q1, q2, q3, q4, q5⟩ := hX.bill.cells
    have hS0 : Box (BX w 84 d (L ++ catL (l.take 0)) b v s c h t (.slice a n k) w4) := ⟨by simpa [catL] using hX⟩
    clear hX
    go_wp2_with fail
    clear q0 q1 q2 q3 q4 q5
    go_loopw [18] (fun q wr => ∃ i : Nat, i ≤ n ∧ q = .int .i64 (i : Int) ∧ Box (BX w 84 d (L ++ catL (l.take i)) b v s c h t (.slice a n k) wr)) (fun q _ => n - (intOf q).toNat)
    case atStart => exact ⟨0, by omega, rfl, hS0⟩
    case round =>
      clear hS0
      obtain ⟨i, hi, rfl, hS⟩ := hrel
      by_cases hlt : i < n
      · have hii : (i : Int) < (n : Int) := by omega
        obtain ⟨blk, off, rfl, hblk, hcell⟩ := (hPB.out wr hS.out.bel).at_ (by omega)
        have hc0 := hcell i hlt
        have h32 := hall2.out i hlt
        have hsn2 := hsn.out i hlt
        have hcl2 := hcl.out i
        obtain ⟨x, hx⟩ : ∃ x, l.getD i ByteArray.empty = x := ⟨_, rfl⟩
        rw [hx] at hc0 h32 hsn2
        have h2 := hS.out.step fun u hu => hash_any' d u _ x wr hu (by rw [List.length_append, hLl.out]; omega) h32
        rw [List.append_assoc, ← hsn2] at h2
        clear hS hcell hblk hx h32 hsn2 hcl2
        go_wp2_with fail
        refine h2.mono ?_
        clear h2
        rintro e w5 ⟨rfl, hS⟩
        replace hS := Box.mk hS
        go_wp2_with fail
        exact ⟨⟨i + 1, by omega, by go_num, hS⟩, by simp [intOf]; omega⟩
      · obtain rfl : i = n := by omega
        have hnl : ¬ (i : Int) < (i : Int) := by omega
        rw [hlast.out] at hS
        obtain ⟨u, hW, _, _⟩ := hS.out.out
        have h2 := Pk.bytes_any d u _ false wr hW
        have hb := Box.mk hS.out.bel
        unfold Pk.bytesR at h2
        rw [if_neg (by decide)] at h2
        obtain ⟨M, hM⟩ : ∃ M, L ++ catL l = M := ⟨_, rfl⟩
        rw [hM] at h2
        replace hM := Box.mk hM
        clear hS hW
        go_wp2_with fail
        refine h2.mono ?_
        clear h2
        rintro e w5 ⟨rfl, rfl⟩
        go_wp2_with fail
        go_returns
        exact ⟨by rw [hM.out]; rfl, by first | exact hb.out | exact hbe ▸ hb.out⟩
end Go.Proofs.YthkfefkcjcgfkaaGreatDoor.Bi

namespace Go.Proofs.YthkfefkcjcgfkaaGreatDoor.Bi
open Go Go.RowKit Go.Proofs.YthkfefkcjcgfkaaGreatDoor
set_option linter.all false

theorem txPA {B : Nat} {w : World} {a : Option Addr} {n c : Nat} {ids : List ByteArray} (h : TxR B w (.slice a n c) ids) (hn : ids.length = n) : PA w a n c ids := by
  have hp := h.parts
  obtain ⟨hx, ⟨h1, h0⟩ | ⟨g, cap, cur, h1, b1, hg, b2, b3, b4⟩⟩ := h
  · cases h1
    exact ⟨hn, Nat.zero_le _, Nat.zero_le _, fun h => by omega⟩
  · cases h1
    refine ⟨hn, by omega, by unfold maxLen at b3; omega, fun h0 => ?_⟩
    obtain ⟨a2, c2, e2, hh⟩ := hp.ex
    cases e2
    have := hh (by omega)
    rw [hn] at this
    exact this
/-- A bill stored over another. -/
def put6 (w : World) (r : Nat) (v s c : Int) (h t : ByteArray) (x : Value) : World :=
  (((((w.setCell ⟨r, 0, none⟩ (.int .i64 v)).setCell ⟨r, 1, none⟩ (.int .i64 s)).setCell ⟨r, 2, none⟩ (.int .i64 c)).setCell ⟨r, 3, none⟩ (.string h)).setCell ⟨r, 4, none⟩ (.string t)).setCell ⟨r, 5, none⟩ x
theorem BAt.put {w : World} {r : Nat} {v s c v' s' c' : Int} {h t h' t' : ByteArray} {x x' : Value} (hA : BAt w r v s c h t x) : BAt (put6 w r v' s' c' h' t' x') r v' s' c' h' t' x' ∧ Pk.Chg (fun i => i = r) w (put6 w r v' s' c' h' t' x') :=
  ⟨Pk.Blk.setCell (Pk.Blk.setCell (Pk.Blk.setCell (Pk.Blk.setCell (Pk.Blk.setCell (Pk.Blk.setCell hA 0 _) 1 _) 2 _) 3 _) 4 _) 5 _, (((((Pk.Chg.refl (fun i => i = r) w).setCell (p := ⟨r, 0, none⟩) rfl _).setCell (p := ⟨r, 1, none⟩) rfl _).setCell (p := ⟨r, 2, none⟩) rfl _).setCell (p := ⟨r, 3, none⟩) rfl _).setCell (p := ⟨r, 4, none⟩) rfl _ |>.setCell (p := ⟨r, 5, none⟩) rfl _⟩
theorem BAt.frees {w : World} {b : Nat} {v s c : Int} {h t : ByteArray} {x : Value} (hA : BAt w b v s c h t x) :
    w.frozen? ⟨b, 0, none⟩ = false ∧ w.frozen? ⟨b, 1, none⟩ = false ∧ w.frozen? ⟨b, 2, none⟩ = false ∧ w.frozen? ⟨b, 3, none⟩ = false ∧ w.frozen? ⟨b, 4, none⟩ = false ∧ w.frozen? ⟨b, 5, none⟩ = false :=
  ⟨Pk.Blk.free hA 0, Pk.Blk.free hA 1, Pk.Blk.free hA 2, Pk.Blk.free hA 3, Pk.Blk.free hA 4, Pk.Blk.free hA 5⟩
/-- What a call that answers a bill answers. -/
def BilIs (v s c : Int) (h t : ByteArray) (l : List ByteArray) (er : Int) (w : World) (e : Ending) (w' : World) : Prop :=
  ∃ x, e = .returned (.tuple #[.agg #[.int .i64 v, .int .i64 s, .int .i64 c, .string h, .string t, x], .int .i64 er]) ∧ TxR w.heap.size w' x l ∧ Below w.heap.size w w'
end Go.Proofs.YthkfefkcjcgfkaaGreatDoor.Bi

namespace Go.Proofs.YthkfefkcjcgfkaaGreatDoor.Bi
open Go Go.RowKit Go.Proofs.YthkfefkcjcgfkaaGreatDoor
set_option linter.all false

end Go.Proofs.YthkfefkcjcgfkaaGreatDoor.Bi
