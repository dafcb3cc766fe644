/- PROVED: KeysSpoilt: a right signature with one byte changed, for the text or of another key, is taken just where the document takes it: for every input. No conditions beyond the given card's. -/
import Derived.Test.YtbnmdieadaeeiaaGreatDoorShaT
import Derived.Test.YtbnmdieadaeeiaaGreatDoorLv
import Derived.Test.YtbnmdieadaeeiaaGreatDoorMKs
namespace Go.Proofs.YtbnmdieadaeeiaaGreatDoor.keysSpoilt
open Go Go.ChangeShapes Go.WideShapes Go.ChangeAt Go.RowKit Go.ChangeMaps

theorem params_ok : ∀ t ∈ Tryz.f5.params.toList, Tryz.prog.readableRec t = true ∧ t < Tryz.prog.types.size := by
  rw [Tryz.params5]
  intro t ht
  have h : t = 9 ∨ t = 5 ∨ t = 48 := by simpa using ht
  rcases h with rfl | rfl | rfl <;> exact ⟨by kernel_rfl, of_decide_eq_true (by kernel_rfl)⟩

set_option maxRecDepth 100000 in
theorem contract (H : Type) (enc : TypeId × Value → H) (W : World) (base : Nat) (args : Array Value) (ds gs : List (DataW H)) (before : List MemPlace)
    (hval : ∀ (j : Nat) t v, Tryz.f5.params[j]? = some t → args[j]? = some v → Value.okWide Tryz.prog W .any base t v)
    (hW : DataW.Whole enc Tryz.prog Tryz.f5.params.toList Rows.keysSpoiltSpec.vars false W args.toList ds gs before)
    (hz : (DataW.weightsEach Tryz.prog (Tryz.f5.params.toList ++ (OpenSpec.ofChange Rows.keysSpoiltSpec).bare.plain.varTypes Tryz.prog) (ds ++ gs)).all (· ≤ reachBytes) = true)
    (hL : laidMetH Tryz.prog Rows.keysSpoiltRow.laid W) :
    Calls Tryz.prog 5 args W fun e W' => ∃ v, e = .returned v ∧ Rows.keysSpoiltSpec.post enc Tryz.prog Tryz.f5 false true false false W args v W' ∧ W'.os = W.os := by
  have hW' := hW
  obtain ⟨p, q, hA0, hV, rfl, hfz, hnd⟩ := hW
  have hA : DataW.TrodAll enc Tryz.prog W 0 (fun _ => true) true Tryz.f5.params.toList args.toList ds p := hA0
  rw [Tryz.params5] at hA hval hz
  obtain ⟨v0, vs0, d0, ds0, p0, q0, hargs, rfl, rfl, h0, r0⟩ := trodAll_cons hA
  obtain ⟨v1, vs1, d1, ds1, p1, q1, rfl, rfl, rfl, h1, r1⟩ := trodAll_cons r0
  obtain ⟨v2, vs2, d2, ds2, p2, q2, rfl, rfl, rfl, h2, r2⟩ := trodAll_cons r1
  obtain ⟨rfl, rfl, rfl⟩ := trodAll_nil r2
  obtain rfl : args = #[v0, v1, v2] := by cases args; simp_all
  obtain ⟨rfl, rfl⟩ := trodVars_none hV
  obtain ⟨x0, rfl, rfl, rfl, wx0⟩ := open_string Tryz.underlying9 (hval 0 9 v0 rfl rfl) h0
  obtain ⟨x1, rfl, rfl, rfl, wx1⟩ := open_int Tryz.underlying5 (hval 1 5 v1 rfl rfl) h1
  have wr1 : IntKind.u8.min ≤ x1 ∧ x1 ≤ IntKind.u8.max := by simpa [Lit.wf] using wx1
  obtain ⟨t2, o2, n2, a2, b2, wn2, wa2, wb2, rfl, wt2, wo2⟩ := ch6_open (hval 2 48 v2 rfl rfl) h2 hz (j := 2) rfl rfl
  clear hA0
  have hb0 := sized_string hz (j := 0) (t := 9) rfl rfl
  rw [data_len] at hb0
  unfold reachBytes at hb0
  have hpost : ∀ e W', e = Ending.returned (.bool true) ∧ Below W.heap.size W W' → ∃ v, e = .returned v ∧ Rows.keysSpoiltSpec.post enc Tryz.prog Tryz.f5 false true false false W #[.string x0, .int .u8 x1, .agg #[.string t2, .string o2, .int .u8 (n2 : Int), .int .u16 (a2 : Int), .int .u8 (b2 : Int)]] v W' ∧ W'.os = W.os := by
    rintro e W' ⟨he, hg⟩
    subst he
    exact ⟨_, rfl, law_post laidOut params_ok rfl hW' rfl (tb := 4) (by kernel_rfl) Tryz.underlying4 hg, hg.os⟩
  have h1 : IntKind.u8.min = 0 := by decide
  have h2 : IntKind.u8.max = 255 := by decide
  obtain ⟨m1, rfl⟩ : ∃ n : Nat, x1 = n := ⟨x1.toNat, by omega⟩
  exact (spoilt_any x0 t2 o2 m1 n2 a2 b2 W (kis hL) hb0 wt2 wo2 (by omega) wn2 wa2 wb2).mono hpost

theorem laid_met (os : Os) : laidMet Tryz.prog Rows.keysSpoiltRow.laid ((laidWorld os).forCall (fun _ _ => 0) ⟨#[], #[.string ByteArray.empty, .int .u8 0, .agg #[.string ByteArray.empty, .string ByteArray.empty, .int .u8 0, .int .u16 0, .int .u8 0]], []⟩).memory :=
  laidMet_of_run' 8 (by kernel_rfl) (by kernel_rfl)
theorem reads (os : Os) {H : Type} (enc : TypeId × Value → H) : ∃ places, DataW.whole enc Tryz.prog ((laidWorld os).forCall (fun _ _ => 0) ⟨#[], #[.string ByteArray.empty, .int .u8 0, .agg #[.string ByteArray.empty, .string ByteArray.empty, .int .u8 0, .int .u16 0, .int .u8 0]], []⟩).memory Tryz.f5.params.toList Rows.keysSpoiltSpec.vars false #[Value.string ByteArray.empty, Value.int .u8 0, Value.agg #[.string ByteArray.empty, .string ByteArray.empty, .int .u8 0, .int .u16 0, .int .u8 0]].toList 8 = some ([.lit (.string []), .lit (.int .u8 0), .agg [.lit (.string []), .lit (.string []), .lit (.int .u8 0), .lit (.int .u16 0), .lit (.int .u8 0)]], [], places) :=
  ⟨[], by kernel_rfl⟩

set_option maxRecDepth 100000 in
theorem lifted (os : Os) (started : os.Started) (H : Type) (enc : TypeId × Value → H) (F : Stop.Interp) :
    ReturnsInLeavingWide Rows.keysSpoiltRow.assume Tryz.checked os 5 .any ((OpenSpec.ofChange Rows.keysSpoiltSpec).preRow enc Tryz.prog Tryz.f5 Rows.keysSpoiltRow.domain false Rows.keysSpoiltRow.laid) ((OpenSpec.ofChange Rows.keysSpoiltSpec).postWith enc Tryz.prog Tryz.f5 F (outsideKept [.timePasses]) false true false) := by
  obtain ⟨places, hx⟩ := reads os enc
  refine leaving_of_lone (C := Tryz.checked) (s := Rows.keysSpoiltSpec) own started (by kernel_rfl) Tryz.func5
    (witness_calm (enc := enc) (C := Tryz.checked) (laidWorld os) #[.string ByteArray.empty, .int .u8 0, .agg #[.string ByteArray.empty, .string ByteArray.empty, .int .u8 0, .int .u16 0, .int .u8 0]] rfl (by kernel_rfl) (by kernel_rfl) (by kernel_rfl)
      (OpenSpec.preRow_of_cond 8 hx (by kernel_rfl) (fun k hk => by cases hk) (by kernel_rfl) (laid_met os))) ?_
  intro W base args ds gs before hval hW hz hL
  exact contract H enc W base args ds gs before hval hW hz hL

theorem said : Rows.KeysSpoiltSaid :=
  OpenClaim.holds_of_wide_leaving_time 5 Tryz.f5 rfl rfl rfl rfl rfl rfl rfl ⟨rfl, rfl, rfl, rfl, rfl⟩ rfl rfl rfl rfl rfl (by kernel_rfl) Tryz.func5 (by kernel_rfl)
    (of_decide_eq_true (by kernel_rfl)) (by unfold Func.isWrapper; first | (rw [if_pos (by decide +kernel)]; kernel_rfl) | (rw [if_neg (by decide +kernel)]; exact ⟨rfl, rfl⟩))
    (fun os started H enc _ F => by rw [OpenClaim.pre_eq_preRow]; exact lifted os started H enc F)

theorem plain (f : FuncId) (fn : Func) (hf : Tryz.pinned.checked.prog.funcNamed "ostler/ostlerlaw06.KeysSpoilt" = some f) (hfn : Tryz.pinned.checked.prog.funcs[f]? = some fn) :
    false = Tryz.pinned.checked.prog.looks [] ∧ ∀ (j : Nat) t, fn.params[j]? = some t → Tryz.pinned.checked.prog.wantsStandIn t = false := by
  obtain rfl : f = 5 := Option.some.inj ((show Tryz.prog.funcNamed "ostler/ostlerlaw06.KeysSpoilt" = some 5 by kernel_rfl).symm.trans hf) |>.symm
  obtain rfl : fn = Tryz.f5 := (Option.some.inj (Tryz.func5.symm.trans hfn)).symm
  refine ⟨by kernel_rfl, fun j t ht => ?_⟩
  rw [Tryz.params5] at ht
  have h : t = 9 ∨ t = 5 ∨ t = 48 := by simpa using Array.mem_of_getElem? ht
  rcases h with rfl | rfl | rfl
  · exact (show Tryz.prog.wantsStandIn 9 = false by kernel_rfl)
  · exact (show Tryz.prog.wantsStandIn 5 = false by kernel_rfl)
  · exact (show Tryz.prog.wantsStandIn 48 = false by kernel_rfl)

/-- The card. -/
theorem card : Rows.KeysSpoiltCardSaid :=
  card_goes _ _ _ _ said (by kernel_rfl) keysSpoilt_row_tie rfl ⟨rfl, rfl⟩ (by kernel_rfl) rfl plain (by kernel_rfl)
end Go.Proofs.YtbnmdieadaeeiaaGreatDoor.keysSpoilt
