/-
  States, octets and arrays that came in; the table of numbers as the program's text lays it.
-/
import Derived.Test.YtdenbbfmiadcbaaDoorShBase
import Derived.ProofKit
import Derived.LaidMore
import Derived.OpenShut
import Derived.Stop.Joined
import Derived.Lib.LaidU8
namespace Go.Proofs.YtdenbbfmiadcbaaDoor
open Go.ChangeShapes Go.WideShapes Go.ChangeAt Go.RowKit
set_option linter.unusedVariables false

theorem own : ownKnob Tryd.prog.godebug = none := by kernel_rfl
theorem laidOut : laidOutB Tryd.prog = true := by kernel_rfl
theorem wf_u32 {x : Int} (h : (Lit.int .u32 x).wf = true) : 0 ≤ x ∧ x ≤ 4294967295 := by
  simp [Lit.wf, IntKind.min, IntKind.max, IntKind.signed, IntKind.bits] at h
  omega
theorem vw_of {x : Int} (h : 0 ≤ x ∧ x ≤ 4294967295) : vw (BitVec.ofInt 32 x) = x := by
  rw [← wrap_of, wrap_u32]
  omega
theorem vb_of {x : Int} (h : 0 ≤ x ∧ x ≤ 255) : vb (BitVec.ofInt 8 x) = x := by
  unfold vb
  rw [BitVec.toNat_ofInt]
  omega
theorem one_at {α : Type} {l : List α} {i : Nat} {x : α} (h : (l.drop i).take 1 = [x]) : l[i]? = some x := by
  have := congrArg (fun q : List α => q[0]?) h
  simpa [List.getElem?_take, List.getElem?_drop] using this

section
variable {H : Type} {enc : TypeId × Value → H} {P : Program} {w : World} {base : Nat} {spare : Nat → Bool} {held : Bool} {t e : TypeId} {n : Nat} {v : Value} {d : DataW H} {ps : List MemPlace} {r : Reach} {b0 : Nat} {k : IntKind}
theorem open_agg (hu : P.underlying t = some (.array n e)) (he : P.underlying e = some (.int k)) (hce : P.cellsOf e = 1) (hct : P.cellsOf t = n) (hval : Value.okWide P w r b0 t v) (hd : DataW.Trod enc P w base spare held t v d ps) :
    ∃ cs : Array Value, v = .agg cs ∧ cs.size = n ∧ ∀ i, i < n → ∃ z, cs[i]? = some (.int k z) ∧ (Lit.int k z).wf = true := by
  obtain ⟨cs, rfl, hsz, _⟩ : ∃ cs, v = .agg cs ∧ cs.size = P.cellsOf t ∧ Row.okWide P w r b0 t cs := by
    simpa [Value.okWide, hu] using hval
  refine ⟨cs, rfl, hsz.trans hct, fun i hi => ?_⟩
  obtain ⟨fuel, hf⟩ := hd
  obtain ⟨xs, m, _, _, _, hxl, hel⟩ := DataW.trod_array hu hf
  have h1 := hel i hi
  rw [hce, Nat.mul_one, List.getElem?_eq_getElem (by omega)] at h1
  obtain ⟨z, hz, _, hw⟩ := DataW.trod_int he h1
  refine ⟨z, ?_, hw⟩
  have := one_at hz
  simpa [Value.cells] using this
theorem open_words (hu : P.underlying t = some (.array n e)) (he : P.underlying e = some (.int .u32)) (hce : P.cellsOf e = 1) (hct : P.cellsOf t = n) (hval : Value.okWide P w r b0 t v) (hd : DataW.Trod enc P w base spare held t v d ps) :
    ∃ F : Nat → BitVec 32, v = .agg (cW n F) := by
  obtain ⟨cs, rfl, hsz, hc⟩ := open_agg hu he hce hct hval hd
  refine ⟨fun i => match cs[i]? with | some (.int _ z) => BitVec.ofInt 32 z | _ => 0, congrArg Value.agg ?_⟩
  refine Array.ext_getElem? fun i => ?_
  by_cases hi : i < n
  · obtain ⟨z, hz, hw⟩ := hc i hi
    rw [cW_get hi, hz]
    simp only [wv, vw_of (wf_u32 hw)]
  · rw [Array.getElem?_eq_none (by omega), Array.getElem?_eq_none (by rw [cW_size]; omega)]
theorem open_octs (hu : P.underlying t = some (.array n e)) (he : P.underlying e = some (.int .u8)) (hce : P.cellsOf e = 1) (hct : P.cellsOf t = n) (hval : Value.okWide P w r b0 t v) (hd : DataW.Trod enc P w base spare held t v d ps) :
    ∃ F : Nat → BitVec 8, v = .agg (cB n F) := by
  obtain ⟨cs, rfl, hsz, hc⟩ := open_agg hu he hce hct hval hd
  refine ⟨fun i => match cs[i]? with | some (.int _ z) => BitVec.ofInt 8 z | _ => 0, congrArg Value.agg ?_⟩
  refine Array.ext_getElem? fun i => ?_
  by_cases hi : i < n
  · obtain ⟨z, hz, hw⟩ := hc i hi
    rw [cB_get hi, hz]
    simp only [ov, vb_of (wf_u8 hw)]
  · rw [Array.getElem?_eq_none (by omega), Array.getElem?_eq_none (by rw [cB_size]; omega)]
end

abbrev laidL : List (String × DataW Unit) := Rows.shaIsRow.laid
theorem gNum : Tryd.prog.globalNamed (Rows.shaIsRow.named.headD "") = some 0 := by kernel_rfl
theorem tNum : (Tryd.prog.globals[0]?).map (·.type) = some 55 := by kernel_rfl
theorem laid_eq : (Rows.laid_cordwood_block_numbers : DataW Unit) = .agg ((List.range 64).map fun i => .lit (.int .u32 (vw (num i)))) := by kernel_rfl
theorem cellsW : Tryd.prog.cellsOf 22 = 1 := by kernel_rfl
theorem cellsU : Tryd.prog.cellsOf 5 = 1 := by kernel_rfl
theorem cells8 : Tryd.prog.cellsOf 23 = 8 := by kernel_rfl
theorem cells64 : Tryd.prog.cellsOf 55 = 64 := by kernel_rfl
theorem cellsO : Tryd.prog.cellsOf 44 = 64 := by kernel_rfl
theorem of_laid {W : World} (h : laidMetH Tryd.prog laidL W) : ∃ tg, RowAt W 0 tg (cW 64 num) := by
  rw [MakeChecks.laidMetH_plain _ _ _ (by kernel_rfl)] at h
  obtain ⟨ps, ⟨g0, t0, cs, f0, p0, q0, hg0, ht0, hv0, hd0, _, hps⟩, _, hfr⟩ := h
  obtain rfl := Option.some.inj (gNum.symm.trans hg0)
  obtain rfl := Option.some.inj (tNum.symm.trans ht0)
  rw [laid_eq] at hd0
  obtain ⟨xs, m, _, hx, hlen, hxl, hel⟩ := DataW.trod_array hu64 hd0
  rw [cells64] at hlen
  have hcs : cs = cW 64 num := by
    refine Array.ext_getElem? fun i => ?_
    by_cases hi : i < 64
    · have h1 := hel i hi
      rw [cellsW, Nat.mul_one, List.getElem?_eq_getElem (by omega)] at h1
      obtain ⟨z, hz, hxe, _⟩ := DataW.trod_int huw h1
      have h2 : (xs.map (·.1))[i]? = some (DataW.lit (.int .u32 (vw (num i)))) := by
        have := congrArg Prod.fst hx
        simp only [DataW.agg.injEq] at this
        rw [← this]
        simp [hi]
      rw [List.getElem?_map, List.getElem?_eq_getElem (by omega), Option.map_some, hxe] at h2
      have h3 : z = vw (num i) := by simpa using h2
      rw [cW_get hi]
      have := one_at hz
      rw [h3] at this
      simpa using this
    · have hl : cs.size = 64 := by simpa using hlen
      rw [Array.getElem?_eq_none (by omega), Array.getElem?_eq_none (by rw [cW_size]; omega)]
  have hm : MemPlace.cell 0 0 ∈ ps := by
    rw [hps, hcs]
    simp [MemPlace.row, cW_size]
  obtain ⟨⟨c, tg, hh⟩, _⟩ := hfr 0 0 hm
  refine ⟨tg, ?_⟩
  have hc : c = cs := by
    simp only [World.var?, hg0, Option.bind_some, hh] at hv0
    exact Option.some.inj hv0
  unfold RowAt
  rw [hh, hc, hcs]
-- slices of octets and states that came in
section
variable {H : Type} {enc : TypeId × Value → H} {w : World} {spare : Nat → Bool} {held : Bool} {v : Value} {d : DataW H} {ps : List MemPlace} {r : Reach} {b0 : Nat}
theorem cells5 : Tryd.prog.cellsOf 5 = 1 := by kernel_rfl
theorem open_bytes {fuel : Nat} {cs : List Value} {x : DataW H × List MemPlace} (h : DataW.trod enc Tryd.prog w 0 (fun _ => true) held fuel 24 cs = some x) :
    ∃ A m c zs, cs = [.slice A m c] ∧ IsRow .u8 w A m c zs := by
  rcases open_ints huo24 hub cells5 h with ⟨hcs, _⟩ | ⟨a, l, c, zs, hcs, _, hl, hm, hz, _, hcell, hwz⟩
  · exact ⟨none, 0, 0, [], hcs, .inl ⟨rfl, rfl, rfl, rfl⟩⟩
  · exact ⟨some a, l, c, zs, hcs, .inr ⟨a, rfl, hl, hm, by simpa using hz, hcell, hwz⟩⟩
theorem open_octets (hval : Value.okWide Tryd.prog w r b0 24 v) (hd : DataW.Trod enc Tryd.prog w 0 (fun _ => true) held 24 v d ps) : ∃ A m c xs, v = .slice A m c ∧ m ≤ c ∧ c ≤ maxLen ∧ Oct w w.heap.size A m xs := by
  obtain ⟨a, l, c, rfl⟩ := okWide_slice huo24 hval
  obtain ⟨fuel, hf⟩ := hd
  obtain ⟨A, m, c', zs, hcs, hr⟩ := open_bytes hf
  have e : Value.slice a l c = .slice A m c' := by simpa [Value.cells] using hcs
  rw [e]
  obtain ⟨h1, h2, h3⟩ := oct_of_row hr
  exact ⟨A, m, c', _, rfl, h1, h2, h3⟩
def wOf : Option Value → BitVec 32
  | some (.int _ z) => BitVec.ofInt 32 z
  | _ => 0
def lay3 : Option TypeDesc → Option (Nat × Option (Nat × Nat) × Option (Nat × Nat) × Option (Nat × Nat))
  | some (.struct fs) => some (fs.size, (fs[0]?).map (fun f => (f.type, f.offset)), (fs[1]?).map (fun f => (f.type, f.offset)), (fs[2]?).map (fun f => (f.type, f.offset)))
  | _ => none
theorem layS : lay3 (Tryd.prog.underlying 26) = some (3, some (23, 0), some (24, 8), some (3, 9)) := by kernel_rfl
theorem stE : ∃ fs, Tryd.prog.underlying 26 = some (.struct fs) ∧ fs.size = 3 ∧ (fs[0]?).map (fun f => (f.type, f.offset)) = some (23, 0) ∧ (fs[1]?).map (fun f => (f.type, f.offset)) = some (24, 8) ∧ (fs[2]?).map (fun f => (f.type, f.offset)) = some (3, 9) := by
  have h := layS
  cases hq : Tryd.prog.underlying 26 with
  | none => rw [hq] at h; cases h
  | some d =>
    rw [hq] at h
    cases d with
    | struct fs =>
      simp only [lay3, Option.some.injEq, Prod.mk.injEq] at h
      exact ⟨fs, rfl, h.1, h.2.1, h.2.2.1, h.2.2.2⟩
    | _ => cases h
theorem cellsS : Tryd.prog.cellsOf 26 = 10 := by kernel_rfl
theorem cellsB : Tryd.prog.cellsOf 24 = 1 := by kernel_rfl
theorem cellsI : Tryd.prog.cellsOf 3 = 1 := by kernel_rfl
theorem fld_get {fs : Array Field} {i t o : Nat} (h : (fs[i]?).map (fun f => (f.type, f.offset)) = some (t, o)) : ∃ f, fs[i]? = some f ∧ f.type = t ∧ f.offset = o := by
  cases hq : fs[i]? with
  | none => simp [hq] at h
  | some f =>
    simp [hq] at h
    exact ⟨f, rfl, h.1, h.2⟩
theorem open_state (hval : Value.okWide Tryd.prog w r b0 26 v) (hd : DataW.Trod enc Tryd.prog w 0 (fun _ => true) held 26 v d ps) :
    ∃ (s : S) (A : Option Addr) (m c : Nat), v = .agg (cS s.h (.slice A m c) s.n) ∧ Oct w w.heap.size A m s.b := by
  obtain ⟨stF, huS, hs3, stF0, stF1, stF2⟩ := stE
  obtain ⟨cs, rfl, hsz, _⟩ : ∃ cs, v = .agg cs ∧ cs.size = Tryd.prog.cellsOf 26 ∧ Row.okWide Tryd.prog w r b0 26 cs := by
    simpa [Value.okWide, huS] using hval
  rw [cellsS] at hsz
  obtain ⟨fuel, hf⟩ := hd
  obtain ⟨xs, n, _, _, hl, hlen, hfl⟩ := DataW.trod_struct huS hf
  obtain ⟨f0, g0, t0, o0⟩ := fld_get stF0
  obtain ⟨f1, g1, t1, o1⟩ := fld_get stF1
  obtain ⟨f2, g2, t2, o2⟩ := fld_get stF2
  have h0 := hfl 0 f0 g0
  have h1 := hfl 1 f1 g1
  have h2 := hfl 2 f2 g2
  have hx : xs.length = stF.size := hlen
  rw [t0, o0, cells8, List.getElem?_eq_getElem (by omega)] at h0
  rw [t1, o1, cellsB, List.getElem?_eq_getElem (by omega)] at h1
  rw [t2, o2, cellsI, List.getElem?_eq_getElem (by omega)] at h2
  obtain ⟨A, m, c, zs, hc1, hr⟩ := open_bytes h1
  obtain ⟨k, hc2, _, _⟩ := DataW.trod_int (show Tryd.prog.underlying 3 = some (.int .i64) by kernel_rfl) h2
  obtain ⟨ys, n2, _, _, _, hyl, hel⟩ := DataW.trod_array hu8 h0
  have hw : ∀ i, i < 8 → ∃ z, cs[i]? = some (.int .u32 z) ∧ (Lit.int .u32 z).wf = true := by
    intro i hi
    have h3 := hel i hi
    rw [cellsW, Nat.mul_one, List.getElem?_eq_getElem (by omega)] at h3
    obtain ⟨z, hz, _, hwf⟩ := DataW.trod_int huw h3
    refine ⟨z, ?_, hwf⟩
    have h4 := one_at hz
    rw [List.getElem?_take, if_pos hi, List.getElem?_drop, Nat.zero_add] at h4
    simpa [Value.cells] using h4
  have e1 : cs[8]? = some (.slice A m c) := by
    have h4 := one_at hc1
    simpa [Value.cells] using h4
  have e2 : cs[9]? = some (.int .i64 k) := by
    have h4 := one_at hc2
    simpa [Value.cells] using h4
  obtain ⟨q1, q2, q3⟩ := oct_of_row hr
  refine ⟨⟨fun i => wOf cs[i]?, zs.take m, k⟩, A, m, c, congrArg Value.agg ?_, q3⟩
  have hwv : ∀ i, i < 8 → cs[i]? = some (wv (wOf cs[i]?)) := by
    intro i hi
    obtain ⟨z, hz, hwf⟩ := hw i hi
    rw [hz]
    simp only [wOf, wv, vw_of (wf_u32 hwf)]
  refine Array.ext_getElem? fun i => ?_
  match i with
  | 0 => exact hwv 0 (by omega)
  | 1 => exact hwv 1 (by omega)
  | 2 => exact hwv 2 (by omega)
  | 3 => exact hwv 3 (by omega)
  | 4 => exact hwv 4 (by omega)
  | 5 => exact hwv 5 (by omega)
  | 6 => exact hwv 6 (by omega)
  | 7 => exact hwv 7 (by omega)
  | 8 => exact e1
  | 9 => exact e2
  | i + 10 =>
    rw [Array.getElem?_eq_none (by omega)]
    exact (Array.getElem?_eq_none (by show 10 ≤ i + 10; omega)).symm
end
end Go.Proofs.YtdenbbfmiadcbaaDoor
