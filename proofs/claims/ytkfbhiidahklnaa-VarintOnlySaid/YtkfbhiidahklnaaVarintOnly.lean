/-
  For every slice of octets b the statement VarintOnly returns true: what is got was put, and where nothing is got only the error is told; no condition.
-/
import Derived.Test.YtkfbhiidahklnaaRows
import Derived.Test.YtkfbhiidahklnaaApp
import Derived.Deep.RegionWith
import Derived.WalkKit
import Derived.ProofKit
import Derived.OpenShut
import Derived.ShutString
import Derived.ChangeOld
import Derived.Below
namespace Go.Proofs.Ytkfbhiidahklnaa
namespace varintOnly
open Go.ChangeShapes Go.WideShapes Go.ChangeAt Go.RowKit
open Go.ChangeMaps (open_string shut_string)
set_option linter.unusedVariables false

theorem own : ownKnob Try.prog.godebug = none := by kernel_rfl
theorem laidOut : laidOutB Try.prog = true := by kernel_rfl


theorem getE_cases (xs : List Int) : getE xs = 0 ∨ getE xs = 1 ∨ getE xs = 2 := by
  unfold getE
  repeat' (first | split | (simp; done))

/-- What Put behind no octets leaves, beside two slices that were there: each reads as the string that it read as. -/
def Both (w : World) (A2 a0 : Option Addr) (n2 c2 n0 c0 : Nat) (sm sr sb : ByteArray) (e : Ending) (w' : World) : Prop :=
  ∃ A L c, e = .returned (.slice A L c) ∧ (convert 22 9 (.slice A L c)).run Try.prog w' = .ok (.string sm) w' ∧
    (convert 22 9 (.slice A2 n2 c2)).run Try.prog w' = .ok (.string sr) w' ∧ (convert 22 9 (.slice a0 n0 c0)).run Try.prog w' = .ok (.string sb) w' ∧ Below w.heap.size w w'

theorem only_put (A2 a0 : Option Addr) (n2 c2 n0 c0 B : Nat) (rs xs : List Int) (m : Int) (sm sr sb : ByteArray) (w : World) (em : strOfNums (octN m) = sm) (er : strOfNums rs = sr) (eb : strOfNums xs = sb)
    (h2 : Oct w B A2 n2 rs) (h0 : Oct w B a0 n0 xs) (hB : B ≤ w.heap.size) :
    Calls Try.prog 14 #[.slice none 0 0, .int .i64 m] w (Both w A2 a0 n2 c2 n0 c0 sm sr sb) := by
  subst em er eb
  refine (put_new m w).mono ?_
  rintro e w' ⟨A, cap, he, _, _, hO, hb⟩
  exact ⟨A, _, cap, he, hO.str cap, (h2.below (hb.mono hB)).str c2, (h0.below (hb.mono hB)).str c0, hb⟩

theorem str_app (xs ys : List Int) : strOfNums xs ++ strOfNums ys = strOfNums (xs ++ ys) := by
  apply ByteArray.ext
  simp [strOfNums, ByteArray.data_append]

set_option maxHeartbeats 4000000 in
theorem walk (a0 : Option Addr) (len0 cap0 : Nat) (z0 : List Int) (w : World) (w0 : IsRow .u8 w a0 len0 cap0 z0) :
    Calls Try.prog 5 #[.slice a0 len0 cap0] w fun e w' => e = .returned (.bool true) ∧ Below w.heap.size w w' := by
  obtain ⟨hlc, hcm, hO⟩ := oct_of_row w0
  clear w0
  generalize z0.take len0 = xs at hO
  by_cases hbig : 1000 < len0
  · go_enter Try.func5, Try.ntmps5
    go_wp2_with fail
    refine (awake_any _).mono ?_
    rintro e w1 ⟨rfl, hb⟩
    go_wp2_with fail
    go_ret
    exact ⟨rfl, hb⟩
  · have HO := Lib.hid hO
    clear hO
    by_cases hE : getE xs = 0
    · have HE := Lib.hid hE
      clear hE
      go_enter Try.func5, Try.ntmps5
      go_wp2_with fail
      refine (awake_any _).mono ?_
      rintro e w1 ⟨rfl, hb⟩
      go_wp2_with fail
      refine (get_some _ _ _ w.heap.size xs _ (HO.out.below hb) hlc hcm HE.out).mono ?_
      rintro e w2 ⟨A2, rfl, hO2, hb2⟩
      have HB : Hid (octN (getV xs) ++ xs.drop (getK xs) = xs) := oct_back xs HO.out.2.1 HE.out
      generalize getV xs = m at *
      generalize len0 - getK xs = n2 at *
      generalize cap0 - getK xs = c2 at *
      generalize xs.drop (getK xs) = rs at *
      have k1 := hb.size
      have k2 := hb2.size
      have hb0 : Below w.heap.size w w2.drew := (hb.trans (hb2.mono k1)).drew
      have hO0 := HO.out.below hb0
      obtain ⟨sm, em⟩ : ∃ sm, strOfNums (octN m) = sm := ⟨_, rfl⟩
      obtain ⟨sr, er⟩ : ∃ sr, strOfNums rs = sr := ⟨_, rfl⟩
      have eb : strOfNums xs = sm ++ sr := by rw [← em, ← er, str_app, HB.out]
      have z1 : ¬ 9223372036854775807 < sm.size + sr.size := by
        rw [← em, ← er, strOfNums_size, strOfNums_size]
        have h1 := octN_le m
        have h2 := congrArg List.length HB.out
        rw [List.length_append, HO.out.1] at h2
        omega
      have s2 : (convert 22 9 (.slice A2 n2 c2)).run Try.prog w2.drew = .ok (.string sr) w2.drew := by rw [← er]; exact Oct.str (w := w2.drew) hO2 c2
      have s0 : (convert 22 9 (.slice a0 len0 cap0)).run Try.prog w2.drew = .ok (.string (sm ++ sr)) w2.drew := by rw [← eb]; exact hO0.str cap0
      have C := Lib.hid (only_put A2 a0 n2 c2 len0 cap0 w.heap.size rs xs m sm sr (sm ++ sr) w2.drew em er eb hO2 hO0 hb0.size)
      clear hO2 hO0 em er eb
      go_wp2_with fail
      go_region_with ((go_at_call 14; refine C.out.mono ?_; rintro e w3 ⟨A3, L3, c3, rfl, t3, t2, t0, hb3⟩))
      all_goals
        go_wp2
        go_ret
        exact ⟨rfl, hb0.trans (hb3.mono hb0.size)⟩
    · have HE := Lib.hid hE
      clear hE
      go_enter Try.func5, Try.ntmps5
      go_wp2_with fail
      refine (awake_any _).mono ?_
      rintro e w1 ⟨rfl, hb⟩
      go_wp2_with fail
      refine (get_bad _ _ _ w.heap.size xs _ (HO.out.below hb) hlc hcm HE.out).mono ?_
      rintro e w2 ⟨rfl, rfl⟩
      rcases getE_cases xs with h | h | h
      · exact absurd h HE.out
      · rw [h]
        clear h
        go_wp2_with fail
        go_ret
        exact ⟨rfl, hb⟩
      · rw [h]
        clear h
        go_wp2_with fail
        go_ret
        exact ⟨rfl, hb⟩

set_option maxRecDepth 100000 in
theorem lifted (os : Os) (started : os.Started) (H : Type) (enc : TypeId × Value → H) :
    ReturnsInHanded {} Try.checked os 5 .any (Rows.varintOnlySpec.pre6 enc Try.prog Try.f5 Rows.varintOnlyRow.domain false) (Rows.varintOnlySpec.post enc Try.prog Try.f5 false true false false) := by
  refine returnsInHanded_of_change (C := Try.checked) own started (by kernel_rfl) Try.func5
    (ChangeSpec.witness6 (enc := enc) (C := Try.checked) false ⟨#[], #[.slice none 0 0], []⟩ 8 (by kernel_rfl) (by kernel_rfl) (by kernel_rfl) (by kernel_rfl)) ?_
  intro W base args ds gs before hval0 hW hcnd _
  have hval : ∀ (j : Nat) t v, Try.f5.params[j]? = some t → args[j]? = some v → Value.okWide Try.prog W .any base t v := hval0
  have hW' := hW
  obtain ⟨p, q, hA0, hV, rfl, hfz, hnd⟩ := hW
  have hA : DataW.TrodAll enc Try.prog W 0 (fun _ => true) true Try.f5.params.toList args.toList ds p := hA0
  rw [Try.params5] at hA hval
  obtain ⟨v0, vs0, d0, ds0, p0, q0, hargs, rfl, rfl, h0, r0⟩ := trodAll_cons hA
  obtain ⟨rfl, rfl, rfl⟩ := trodAll_nil r0
  obtain rfl : args = #[v0] := by cases args; simp_all
  obtain ⟨rfl, rfl⟩ := trodVars_none hV
  obtain ⟨a0, len0, cap0, rfl⟩ := okWide_slice Try.underlying22 (hval 0 22 v0 rfl rfl)
  have k0 := h0
  have lt0 : ∀ x ∈ p0, x.block < W.heap.size := by obtain ⟨m, hm⟩ := k0; exact DataW.trod_lt m _ _ _ hm
  obtain ⟨z0, w0⟩ : ∃ zs, IsRow .u8 W a0 len0 cap0 zs := by
    obtain ⟨fuel, hf⟩ := h0
    rcases open_ints Try.underlying22 Try.underlying5 (by kernel_rfl) hf with ⟨hcs, _⟩ | ⟨x, l, c, zs, hcs, _, hl, hm, hz, _, hcell, hwz⟩
    · simp [Value.cells] at hcs
      obtain ⟨rfl, rfl, rfl⟩ := hcs
      exact ⟨[], .inl ⟨rfl, rfl, rfl, rfl⟩⟩
    · simp [Value.cells] at hcs
      obtain ⟨rfl, rfl, rfl⟩ := hcs
      exact ⟨zs, .inr ⟨_, rfl, hl, hm, by simpa using hz, hcell, hwz⟩⟩
  clear hA0 hval0
  refine (walk a0 len0 cap0 z0 W w0).mono fun e W' ⟨he, bel⟩ => ?_
  subst he
  exact ⟨_, rfl, _, _, _, [], _, [], hW', trodAll_mk1 (shut_bool Try.underlying4 _), (trodAll_cons_mk (Below.trod laidOut (by kernel_rfl) (of_decide_eq_true (by kernel_rfl)) k0 bel lt0) trodAll_mk0), rfl, bel.frame _, fun h => by cases h⟩

theorem over : Rows.varintOnlyRow.holds Try.pinned (OpenSpec.ofChange Rows.varintOnlySpec) :=
  OpenClaim.holds_of_wide 5 Try.f5 rfl rfl rfl rfl rfl rfl rfl ⟨rfl, rfl, rfl, rfl, rfl⟩ rfl rfl rfl rfl rfl (by kernel_rfl) Try.func5 (by kernel_rfl)
    (of_decide_eq_true (by kernel_rfl)) (by unfold Func.isWrapper; first | (rw [if_pos (by decide +kernel)]; kernel_rfl) | (rw [if_neg (by decide +kernel)]; exact ⟨rfl, rfl⟩))
    (fun os started H enc _ => lifted os started H enc)

end varintOnly

theorem varintOnly_holds : Rows.VarintOnlySaid := varintOnly.over
end Go.Proofs.Ytkfbhiidahklnaa
