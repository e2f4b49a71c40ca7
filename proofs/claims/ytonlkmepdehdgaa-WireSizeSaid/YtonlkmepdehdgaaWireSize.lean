/-
  For every slice of octets v and every slice of ints l the statement WireSize returns true: put they are as long as they are, and one, two or four octets that say so; no condition.
-/
import Derived.Test.YtonlkmepdehdgaaRows
import Derived.Test.YtonlkmepdehdgaaWiBits
import Derived.WalkKit
import Derived.ProofKit
import Derived.OpenShut
import Derived.ShutString
import Derived.ChangeOld
import Derived.Below
namespace Go.Proofs.Ytonlkmepdehdgaa
namespace wireSize
open Go.ChangeShapes Go.WideShapes Go.ChangeAt Go.RowKit
open Go.ChangeMaps (open_string shut_string)
set_option linter.unusedVariables false

theorem own : ownKnob Try.prog.godebug = none := by kernel_rfl
theorem laidOut : laidOutB Try.prog = true := by kernel_rfl


def aheadN (n : Int) : Int := if n < 64 then 1 else if n < 16384 then 2 else 4
theorem ahead_any (n : Int) (w : World) : Calls Try.prog 27 #[.int .i64 n] w fun e w' => e = .returned (.int .i64 (aheadN n)) ∧ w = w' := by
  by_cases h1 : n < 64
  · have e : aheadN n = 1 := by unfold aheadN; rw [if_pos h1]
    rw [e]
    clear e
    go_enter Try.func27, Try.ntmps27
    go_wp2
    go_ret
    exact ⟨rfl, rfl⟩
  · by_cases h2 : n < 16384
    · have e : aheadN n = 2 := by unfold aheadN; rw [if_neg h1, if_pos h2]
      rw [e]
      clear e
      go_enter Try.func27, Try.ntmps27
      go_wp2
      go_ret
      exact ⟨rfl, rfl⟩
    · have e : aheadN n = 4 := by unfold aheadN; rw [if_neg h1, if_neg h2]
      rw [e]
      clear e
      go_enter Try.func27, Try.ntmps27
      go_wp2
      go_ret
      exact ⟨rfl, rfl⟩
theorem ahead_is {n : Nat} (h : n ≤ 1048576) : aheadN n = ((octN (n : Int)).length : Int) := by
  rw [octN_length]
  unfold aheadN
  by_cases h1 : (n : Int) < 64
  · rw [if_pos h1, sizeN_1 (by omega) (by omega)]
  · rw [if_neg h1]
    by_cases h2 : (n : Int) < 16384
    · rw [if_pos h2, sizeN_2 (by omega) (by omega)]
    · rw [if_neg h2, sizeN_4 (by omega) (by omega)]

set_option maxHeartbeats 1000000 in
theorem walk (a0 : Option Addr) (len0 cap0 : Nat) (z0 : List Int) (a1 : Option Addr) (len1 cap1 : Nat) (z1 : List Int) (w : World) (w0 : IsRow .u8 w a0 len0 cap0 z0) (w1 : IsRow .i64 w a1 len1 cap1 z1) :
    Calls Try.prog 8 #[.slice a0 len0 cap0, .slice a1 len1 cap1] w fun e w' => e = .returned (.bool true) ∧ Below w.heap.size w w' := by
  obtain ⟨hlc, hcm, hO⟩ := oct_of_row w0
  obtain ⟨hlc1, hcm1, hN⟩ := nums_of_row w1
  clear w0 w1
  generalize z0.take len0 = vs at hO
  generalize z1.take len1 = ls at hN
  have HO := Lib.hid hO
  have HN := Lib.hid hN
  clear hO hN
  by_cases hbig : 20000 < len0
  · go_enter Try.func8, Try.ntmps8
    go_wp2_with fail
    refine (awake_any _).mono ?_
    rintro e w1 ⟨rfl, hb⟩
    go_wp2_with fail
    go_ret
    exact ⟨rfl, hb⟩
  · by_cases hbig1 : 3000 < len1
    · go_enter Try.func8, Try.ntmps8
      go_wp2_with fail
      refine (awake_any _).mono ?_
      rintro e w1 ⟨rfl, hb⟩
      go_wp2_with fail
      go_ret
      exact ⟨rfl, hb⟩
    · have l0 : Hid (vs.length = len0) := HO.out.1
      have l1 : Hid (ls.length = len1) := HN.out.1
      have e4 : Hid ((numsOct ls).length = 4 * len1) := by show _ = _; rw [numsOct_length, l1.out]
      obtain ⟨L0, hL0⟩ : ∃ L, (octN (len0 : Int)).length = L := ⟨_, rfl⟩
      obtain ⟨L1, hL1⟩ : ∃ L, (octN ((4 * len1 : Nat) : Int)).length = L := ⟨_, rfl⟩
      have x0 : Hid (aheadN (len0 : Int) = (L0 : Int)) := by show _ = _; rw [ahead_is (by omega), hL0]
      have x1 : Hid (aheadN (4 * (len1 : Int)) = (L1 : Int)) := by
        show _ = _
        have := ahead_is (n := 4 * len1) (by omega)
        rw [hL1] at this
        rw [← this]
        congr 1
      have b0 : L0 ≤ 4 := by rw [← hL0]; exact octN_le _
      have b1 : L1 ≤ 4 := by rw [← hL1]; exact octN_le _
      have y0 : Hid ((bytesOct vs).length = L0 + len0) := by show _ = _; rw [bytesOct_length (by rw [l0.out]; omega), l0.out, hL0]
      have y1 : Hid ((bytesOct (numsOct ls)).length = L1 + 4 * len1) := by show _ = _; rw [bytesOct_length (by rw [e4.out]; omega), e4.out, hL1]
      clear hL0 hL1
      go_enter Try.func8, Try.ntmps8
      go_wp2_with fail
      refine (awake_any _).mono ?_
      rintro e w1 ⟨rfl, hb⟩
      have k1 := hb.size
      go_wp2_with fail
      refine (putBytes_any none a0 0 0 len0 cap0 _ [] vs w1 (Oct.nil _ _ _) (HO.out.below hb) k1 (Nat.le_refl _) (Nat.zero_le _) (by omega)).mono ?_
      rw [List.nil_append]
      rintro e w2 ⟨A2, n2, c2, rfl, g1, g2, hO2, hb2⟩
      obtain rfl : L0 + len0 = n2 := by rw [← hO2.1, y0.out]
      clear hO2
      have k2 := hb2.size
      have u2 : Below w.heap.size w w2 := hb.trans (hb2.mono k1)
      go_wp2_with fail
      refine (putNums_any none a1 0 0 len1 cap1 _ [] ls w2 (Oct.nil _ _ _) (HN.out.below u2) (by omega) (Nat.le_refl _) (Nat.zero_le _) (by omega)).mono ?_
      rw [List.nil_append]
      rintro e w3 ⟨A3, n3, c3, rfl, g3, g4, hO3, hb3⟩
      obtain rfl : L1 + 4 * len1 = n3 := by rw [← hO3.1, y1.out]
      clear hO3
      have k3 := hb3.size
      have u3 : Below w.heap.size w w3 := u2.trans (hb3.mono (by omega))
      go_wp2_with fail
      have r0 : ((L0 : Int) == (L0 : Int)) = true := by simp
      have r1 : ((L1 : Int) == (L1 : Int)) = true := by simp
      refine (ahead_any (len0 : Int) _).mono ?_
      rw [x0.out]
      rintro e w4 ⟨rfl, rfl⟩
      go_wp2_with fail
      refine (ahead_any (4 * (len1 : Int)) _).mono ?_
      rw [x1.out]
      rintro e w4 ⟨rfl, rfl⟩
      go_wp2_with fail
      refine (putFlag_any a0 len0 cap0 _ vs true w3 (HO.out.below u3) (by omega) (by omega)).mono ?_
      rintro e w4 ⟨A4, n4, c4, rfl, g5, g6, hO4, hb4⟩
      obtain rfl : len0 + 1 = n4 := by rw [← hO4.1, List.length_append, l0.out]; rfl
      clear hO4
      have r2 : ((len0 : Int) + 1 == (len0 : Int) + 1) = true := by simp
      go_wp2
      go_ret
      exact ⟨rfl, u3.trans (hb4.mono (by omega))⟩

set_option maxRecDepth 100000 in
theorem lifted (os : Os) (started : os.Started) (H : Type) (enc : TypeId × Value → H) :
    ReturnsInHanded {} Try.checked os 8 .any (Rows.wireSizeSpec.pre6 enc Try.prog Try.f8 Rows.wireSizeRow.domain false) (Rows.wireSizeSpec.post enc Try.prog Try.f8 false true false false) := by
  refine returnsInHanded_of_change (C := Try.checked) own started (by kernel_rfl) Try.func8
    (ChangeSpec.witness6 (enc := enc) (C := Try.checked) false ⟨#[], #[.slice none 0 0, .slice none 0 0], []⟩ 8 (by kernel_rfl) (by kernel_rfl) (by kernel_rfl) (by kernel_rfl)) ?_
  intro W base args ds gs before hval0 hW hcnd _
  have hval : ∀ (j : Nat) t v, Try.f8.params[j]? = some t → args[j]? = some v → Value.okWide Try.prog W .any base t v := hval0
  have hW' := hW
  obtain ⟨p, q, hA0, hV, rfl, hfz, hnd⟩ := hW
  have hA : DataW.TrodAll enc Try.prog W 0 (fun _ => true) true Try.f8.params.toList args.toList ds p := hA0
  rw [Try.params8] at hA hval
  obtain ⟨v0, vs0, d0, ds0, p0, q0, hargs, rfl, rfl, h0, r0⟩ := trodAll_cons hA
  obtain ⟨v1, vs1, d1, ds1, p1, q1, rfl, rfl, rfl, h1, r1⟩ := trodAll_cons r0
  obtain ⟨rfl, rfl, rfl⟩ := trodAll_nil r1
  obtain rfl : args = #[v0, v1] := by cases args; simp_all
  obtain ⟨rfl, rfl⟩ := trodVars_none hV
  obtain ⟨a0, len0, cap0, rfl⟩ := okWide_slice Try.underlying22 (hval 0 22 v0 rfl rfl)
  have k0 := h0
  have lt0 : ∀ x ∈ p0, x.block < W.heap.size := by obtain ⟨m, hm⟩ := k0; exact DataW.trod_lt m _ _ _ hm
  obtain ⟨z0, w0⟩ : ∃ zs, IsRow .u8 W a0 len0 cap0 zs := by
    obtain ⟨fuel, hf⟩ := h0
    rcases open_ints Try.underlying22 Try.underlying5 (by kernel_rfl) hf with ⟨hcs, _⟩ | ⟨x, l, c, zs, hcs, _, hl, hm, hz, _, hcell, hwz⟩
    · simp [Value.cells] at hcs
      obtain ⟨rfl, rfl, rfl⟩ := hcs
      exact ⟨[], .inl ⟨rfl, rfl, rfl, rfl⟩⟩
    · simp [Value.cells] at hcs
      obtain ⟨rfl, rfl, rfl⟩ := hcs
      exact ⟨zs, .inr ⟨_, rfl, hl, hm, by simpa using hz, hcell, hwz⟩⟩
  obtain ⟨a1, len1, cap1, rfl⟩ := okWide_slice Try.underlying23 (hval 1 23 v1 rfl rfl)
  have k1 := h1
  have lt1 : ∀ x ∈ p1, x.block < W.heap.size := by obtain ⟨m, hm⟩ := k1; exact DataW.trod_lt m _ _ _ hm
  obtain ⟨z1, w1⟩ : ∃ zs, IsRow .i64 W a1 len1 cap1 zs := by
    obtain ⟨fuel, hf⟩ := h1
    rcases open_ints Try.underlying23 Try.underlying3 (by kernel_rfl) hf with ⟨hcs, _⟩ | ⟨x, l, c, zs, hcs, _, hl, hm, hz, _, hcell, hwz⟩
    · simp [Value.cells] at hcs
      obtain ⟨rfl, rfl, rfl⟩ := hcs
      exact ⟨[], .inl ⟨rfl, rfl, rfl, rfl⟩⟩
    · simp [Value.cells] at hcs
      obtain ⟨rfl, rfl, rfl⟩ := hcs
      exact ⟨zs, .inr ⟨_, rfl, hl, hm, by simpa using hz, hcell, hwz⟩⟩
  clear hA0 hval0
  refine (walk a0 len0 cap0 z0 a1 len1 cap1 z1 W w0 w1).mono fun e W' ⟨he, bel⟩ => ?_
  subst he
  exact ⟨_, rfl, _, _, _, [], _, [], hW', trodAll_mk1 (shut_bool Try.underlying4 _), (trodAll_cons_mk (Below.trod laidOut (by kernel_rfl) (of_decide_eq_true (by kernel_rfl)) k0 bel lt0) (trodAll_cons_mk (Below.trod laidOut (by kernel_rfl) (of_decide_eq_true (by kernel_rfl)) k1 bel lt1) trodAll_mk0)), rfl, bel.frame _, fun h => by cases h⟩

theorem over : Rows.wireSizeRow.holds Try.pinned (OpenSpec.ofChange Rows.wireSizeSpec) :=
  OpenClaim.holds_of_wide 8 Try.f8 rfl rfl rfl rfl rfl rfl rfl ⟨rfl, rfl, rfl, rfl, rfl⟩ rfl rfl rfl rfl rfl (by kernel_rfl) Try.func8 (by kernel_rfl)
    (of_decide_eq_true (by kernel_rfl)) (by unfold Func.isWrapper; first | (rw [if_pos (by decide +kernel)]; kernel_rfl) | (rw [if_neg (by decide +kernel)]; exact ⟨rfl, rfl⟩))
    (fun os started H enc _ => lifted os started H enc)

end wireSize

theorem wireSize_holds : Rows.WireSizeSaid := wireSize.over
end Go.Proofs.Ytonlkmepdehdgaa
