/-
  Arrays of words and of octets that came in; the table of numbers as the program's text lays it.
-/
import Derived.Test.YtnogmcldjfbfoaaDoorBlRule
import Derived.ProofKit
import Derived.LaidMore
import Derived.OpenShut
import Derived.Stop.Joined
import Derived.Lib.LaidU8
namespace Go.Proofs.YtnogmcldjfbfoaaDoor
open Go.ChangeShapes Go.WideShapes Go.ChangeAt Go.RowKit
set_option linter.unusedVariables false

theorem own : ownKnob Tryd.prog.godebug = none := by kernel_rfl
theorem laidOut : laidOutB Tryd.prog = true := by kernel_rfl
theorem wf_u32 {x : Int} (h : (Lit.int .u32 x).wf = true) : 0 ≤ x ∧ x ≤ 4294967295 := by
  simp [Lit.wf, IntKind.min, IntKind.max, IntKind.signed, IntKind.bits] at h
  omega
theorem wf_u8 {x : Int} (h : (Lit.int .u8 x).wf = true) : 0 ≤ x ∧ x ≤ 255 := by
  simp [Lit.wf, IntKind.min, IntKind.max, IntKind.signed, IntKind.bits] at h
  omega
theorem vw_of {x : Int} (h : 0 ≤ x ∧ x ≤ 4294967295) : vw (BitVec.ofInt 32 x) = x := by
  rw [← wrap_of, wrap_u32]
  omega
theorem vb_of {x : Int} (h : 0 ≤ x ∧ x ≤ 255) : vb (BitVec.ofInt 8 x) = x := by
  unfold vb
  rw [BitVec.toNat_ofInt]
  omega
theorem one_at {α : Type} {l : List α} {i : Nat} {x : α} (h : (l.drop i).take 1 = [x]) : l[i]? = some x := by
  have := congrArg (fun q : List α => q[0]?) h
  simpa [List.getElem?_take, List.getElem?_drop] using this

section
variable {H : Type} {enc : TypeId × Value → H} {P : Program} {w : World} {base : Nat} {spare : Nat → Bool} {held : Bool} {t e : TypeId} {n : Nat} {v : Value} {d : DataW H} {ps : List MemPlace} {r : Reach} {b0 : Nat} {k : IntKind}
theorem open_agg (hu : P.underlying t = some (.array n e)) (he : P.underlying e = some (.int k)) (hce : P.cellsOf e = 1) (hct : P.cellsOf t = n) (hval : Value.okWide P w r b0 t v) (hd : DataW.Trod enc P w base spare held t v d ps) :
    ∃ cs : Array Value, v = .agg cs ∧ cs.size = n ∧ ∀ i, i < n → ∃ z, cs[i]? = some (.int k z) ∧ (Lit.int k z).wf = true := by
  obtain ⟨cs, rfl, hsz, _⟩ : ∃ cs, v = .agg cs ∧ cs.size = P.cellsOf t ∧ Row.okWide P w r b0 t cs := by
    simpa [Value.okWide, hu] using hval
  refine ⟨cs, rfl, hsz.trans hct, fun i hi => ?_⟩
  obtain ⟨fuel, hf⟩ := hd
  obtain ⟨xs, m, _, _, _, hxl, hel⟩ := DataW.trod_array hu hf
  have h1 := hel i hi
  rw [hce, Nat.mul_one, List.getElem?_eq_getElem (by omega)] at h1
  obtain ⟨z, hz, _, hw⟩ := DataW.trod_int he h1
  refine ⟨z, ?_, hw⟩
  have := one_at hz
  simpa [Value.cells] using this
theorem open_words (hu : P.underlying t = some (.array n e)) (he : P.underlying e = some (.int .u32)) (hce : P.cellsOf e = 1) (hct : P.cellsOf t = n) (hval : Value.okWide P w r b0 t v) (hd : DataW.Trod enc P w base spare held t v d ps) :
    ∃ F : Nat → BitVec 32, v = .agg (cW n F) := by
  obtain ⟨cs, rfl, hsz, hc⟩ := open_agg hu he hce hct hval hd
  refine ⟨fun i => match cs[i]? with | some (.int _ z) => BitVec.ofInt 32 z | _ => 0, congrArg Value.agg ?_⟩
  refine Array.ext_getElem? fun i => ?_
  by_cases hi : i < n
  · obtain ⟨z, hz, hw⟩ := hc i hi
    rw [cW_get hi, hz]
    simp only [wv, vw_of (wf_u32 hw)]
  · rw [Array.getElem?_eq_none (by omega), Array.getElem?_eq_none (by rw [cW_size]; omega)]
theorem open_octs (hu : P.underlying t = some (.array n e)) (he : P.underlying e = some (.int .u8)) (hce : P.cellsOf e = 1) (hct : P.cellsOf t = n) (hval : Value.okWide P w r b0 t v) (hd : DataW.Trod enc P w base spare held t v d ps) :
    ∃ F : Nat → BitVec 8, v = .agg (cB n F) := by
  obtain ⟨cs, rfl, hsz, hc⟩ := open_agg hu he hce hct hval hd
  refine ⟨fun i => match cs[i]? with | some (.int _ z) => BitVec.ofInt 8 z | _ => 0, congrArg Value.agg ?_⟩
  refine Array.ext_getElem? fun i => ?_
  by_cases hi : i < n
  · obtain ⟨z, hz, hw⟩ := hc i hi
    rw [cB_get hi, hz]
    simp only [ov, vb_of (wf_u8 hw)]
  · rw [Array.getElem?_eq_none (by omega), Array.getElem?_eq_none (by rw [cB_size]; omega)]
end

abbrev laidL : List (String × DataW Unit) := Rows.blockIsRow.laid
theorem gNum : Tryd.prog.globalNamed (Rows.blockIsRow.named.headD "") = some 0 := by kernel_rfl
theorem tNum : (Tryd.prog.globals[0]?).map (·.type) = some 27 := by kernel_rfl
theorem laid_eq : (Rows.laid_cordwood_block_numbers : DataW Unit) = .agg ((List.range 64).map fun i => .lit (.int .u32 (vw (num i)))) := by kernel_rfl
theorem cellsW : Tryd.prog.cellsOf 22 = 1 := by kernel_rfl
theorem cellsU : Tryd.prog.cellsOf 5 = 1 := by kernel_rfl
theorem cells8 : Tryd.prog.cellsOf 23 = 8 := by kernel_rfl
theorem cells64 : Tryd.prog.cellsOf 27 = 64 := by kernel_rfl
theorem cellsO : Tryd.prog.cellsOf 24 = 64 := by kernel_rfl
theorem of_laid {W : World} (h : laidMetH Tryd.prog laidL W) : ∃ tg, RowAt W 0 tg (cW 64 num) := by
  rw [MakeChecks.laidMetH_plain _ _ _ (by kernel_rfl)] at h
  obtain ⟨ps, ⟨g0, t0, cs, f0, p0, q0, hg0, ht0, hv0, hd0, _, hps⟩, _, hfr⟩ := h
  obtain rfl := Option.some.inj (gNum.symm.trans hg0)
  obtain rfl := Option.some.inj (tNum.symm.trans ht0)
  rw [laid_eq] at hd0
  obtain ⟨xs, m, _, hx, hlen, hxl, hel⟩ := DataW.trod_array hu64 hd0
  rw [cells64] at hlen
  have hcs : cs = cW 64 num := by
    refine Array.ext_getElem? fun i => ?_
    by_cases hi : i < 64
    · have h1 := hel i hi
      rw [cellsW, Nat.mul_one, List.getElem?_eq_getElem (by omega)] at h1
      obtain ⟨z, hz, hxe, _⟩ := DataW.trod_int huw h1
      have h2 : (xs.map (·.1))[i]? = some (DataW.lit (.int .u32 (vw (num i)))) := by
        have := congrArg Prod.fst hx
        simp only [DataW.agg.injEq] at this
        rw [← this]
        simp [hi]
      rw [List.getElem?_map, List.getElem?_eq_getElem (by omega), Option.map_some, hxe] at h2
      have h3 : z = vw (num i) := by simpa using h2
      rw [cW_get hi]
      have := one_at hz
      rw [h3] at this
      simpa using this
    · have hl : cs.size = 64 := by simpa using hlen
      rw [Array.getElem?_eq_none (by omega), Array.getElem?_eq_none (by rw [cW_size]; omega)]
  have hm : MemPlace.cell 0 0 ∈ ps := by
    rw [hps, hcs]
    simp [MemPlace.row, cW_size]
  obtain ⟨⟨c, tg, hh⟩, _⟩ := hfr 0 0 hm
  refine ⟨tg, ?_⟩
  have hc : c = cs := by
    simp only [World.var?, hg0, Option.bind_some, hh] at hv0
    exact Option.some.inj hv0
  unfold RowAt
  rw [hh, hc, hcs]
end Go.Proofs.YtnogmcldjfbfoaaDoor
