/-
  For every slice of octets v, every slice of ints l and every int cut the statement WireShort returns true: what is put and cut anywhere ahead of its end is short; no condition.
-/
import Derived.Test.YtonlkmepdehdgaaRows
import Derived.Test.YtonlkmepdehdgaaWiBits
import Derived.WalkKit
import Derived.ProofKit
import Derived.OpenShut
import Derived.ShutString
import Derived.ChangeOld
import Derived.Below
namespace Go.Proofs.Ytonlkmepdehdgaa
namespace wireShort
open Go.ChangeShapes Go.WideShapes Go.ChangeAt Go.RowKit
open Go.ChangeMaps (open_string shut_string)
set_option linter.unusedVariables false

theorem own : ownKnob Try.prog.godebug = none := by kernel_rfl
theorem laidOut : laidOutB Try.prog = true := by kernel_rfl


set_option maxHeartbeats 1000000 in
theorem walk (a0 : Option Addr) (len0 cap0 : Nat) (z0 : List Int) (a1 : Option Addr) (len1 cap1 : Nat) (z1 : List Int) (a2 : Int) (w : World) (w0 : IsRow .u8 w a0 len0 cap0 z0) (w1 : IsRow .i64 w a1 len1 cap1 z1) (w2 : (Lit.int .i64 a2).wf = true) :
    Calls Try.prog 5 #[.slice a0 len0 cap0, .slice a1 len1 cap1, .int .i64 a2] w fun e w' => e = .returned (.bool true) ∧ Below w.heap.size w w' := by
  obtain ⟨hlc, hcm, hO⟩ := oct_of_row w0
  obtain ⟨hlc1, hcm1, hN⟩ := nums_of_row w1
  clear w0 w1
  generalize z0.take len0 = vs at hO
  generalize z1.take len1 = ls at hN
  have HO := Lib.hid hO
  have HN := Lib.hid hN
  clear hO hN
  by_cases hbig : 1000 < len0
  · go_enter Try.func5, Try.ntmps5
    go_wp2_with fail
    refine (awake_any _).mono ?_
    rintro e w1 ⟨rfl, hb⟩
    go_wp2_with fail
    go_ret
    exact ⟨rfl, hb⟩
  · by_cases hbig1 : 100 < len1
    · go_enter Try.func5, Try.ntmps5
      go_wp2_with fail
      refine (awake_any _).mono ?_
      rintro e w1 ⟨rfl, hb⟩
      go_wp2_with fail
      go_ret
      exact ⟨rfl, hb⟩
    · have l0 : Hid (vs.length = len0) := HO.out.1
      have l1 : Hid (ls.length = len1) := HN.out.1
      go_enter Try.func5, Try.ntmps5
      go_wp2_with fail
      refine (awake_any _).mono ?_
      rintro e w1 ⟨rfl, hb⟩
      have k1 := hb.size
      go_wp2_with fail
      refine (putBytes_any none a0 0 0 len0 cap0 _ [] vs w1 (Oct.nil _ _ _) (HO.out.below hb) k1 (Nat.le_refl _) (Nat.zero_le _) (by omega)).mono ?_
      rw [List.nil_append]
      rintro e w2 ⟨A2, n2, c2, rfl, g1, g2, hO2, hb2⟩
      have HO2 := Lib.hid hO2
      clear hO2
      have k2 := hb2.size
      go_wp2_with fail
      refine (putNums_any none a1 0 0 len1 cap1 _ [] ls w2 (Oct.nil _ _ _) ((HN.out.below hb).more k1 |>.below hb2) k2 (Nat.le_refl _) (Nat.zero_le _) (by omega)).mono ?_
      rw [List.nil_append]
      rintro e w3 ⟨A3, n3, c3, rfl, g3, g4, hO3, hb3⟩
      have HO3 := Lib.hid hO3
      clear hO3
      have k3 := hb3.size
      have e4 := numsOct_length ls
      rw [l1.out] at e4
      have E2 : Hid ((bytesOct vs).length = n2) := HO2.out.1
      have E3 : Hid ((bytesOct (numsOct ls)).length = n3) := HO3.out.1
      have p2 : 0 < n2 := by rw [← E2.out]; exact bytesOct_pos (by rw [l0.out]; omega)
      have p3 : 0 < n3 := by rw [← E3.out]; exact bytesOct_pos (by omega)
      have q2 : ((n2 : Int) == 0) = false := by simp; omega
      have q3 : ((n3 : Int) == 0) = false := by simp; omega
      clear e4
      obtain ⟨X, hX⟩ : ∃ X : Nat, bits .and .i64 a2 65535 = (X : Int) := ⟨(a2 % 65536).toNat, by rw [and_65535]; omega⟩
      obtain ⟨Y2, hY2⟩ : ∃ Y, X % n2 = Y := ⟨_, rfl⟩
      obtain ⟨Y3, hY3⟩ : ∃ Y, X % n3 = Y := ⟨_, rfl⟩
      have y2 : Y2 < n2 := by rw [← hY2]; exact Nat.mod_lt _ p2
      have y3 : Y3 < n3 := by rw [← hY3]; exact Nat.mod_lt _ p3
      have t2 : (X : Int).tmod (n2 : Int) = (Y2 : Int) := by rw [← hY2]; rfl
      have t3 : (X : Int).tmod (n3 : Int) = (Y3 : Int) := by rw [← hY3]; rfl
      clear hY2 hY3
      go_wp2_with fail
      refine (getBytes_any A2 Y2 c2 _ _ w3 ((HO2.out.below hb3).upto Y2 (by omega)) (by omega) g2 k3).mono ?_
      rw [bytes_cut vs Y2 (by rw [l0.out]; omega) (by rw [E2.out]; exact y2)]
      rintro e w4 ⟨A4, n4, c4, A5, n5, c5, rfl, _, _, _, _, _, _, hb4⟩
      have k4 := hb4.size
      go_wp2_with fail
      refine (getNums_any A3 Y3 c3 _ _ w4 ((HO3.out.below hb4).upto Y3 (by omega)) (by omega) g4 k4).mono ?_
      rw [nums_cut ls Y3 (by rw [numsOct_length, l1.out]; omega) (by rw [E3.out]; exact y3)]
      rintro e w5 ⟨A6, n6, c6, A7, n7, c7, rfl, _, _, _, _, hb5⟩
      have k5 := hb5.size
      go_wp2_with fail
      go_ret
      exact ⟨rfl, hb.trans ((((hb2.trans (hb3.mono k2)).trans (hb4.mono (by omega))).trans (hb5.mono (by omega))).mono k1)⟩

set_option maxRecDepth 100000 in
theorem lifted (os : Os) (started : os.Started) (H : Type) (enc : TypeId × Value → H) :
    ReturnsInHanded {} Try.checked os 5 .any (Rows.wireShortSpec.pre6 enc Try.prog Try.f5 Rows.wireShortRow.domain false) (Rows.wireShortSpec.post enc Try.prog Try.f5 false true false false) := by
  refine returnsInHanded_of_change (C := Try.checked) own started (by kernel_rfl) Try.func5
    (ChangeSpec.witness6 (enc := enc) (C := Try.checked) false ⟨#[], #[.slice none 0 0, .slice none 0 0, .int .i64 0], []⟩ 8 (by kernel_rfl) (by kernel_rfl) (by kernel_rfl) (by kernel_rfl)) ?_
  intro W base args ds gs before hval0 hW hcnd _
  have hval : ∀ (j : Nat) t v, Try.f5.params[j]? = some t → args[j]? = some v → Value.okWide Try.prog W .any base t v := hval0
  have hW' := hW
  obtain ⟨p, q, hA0, hV, rfl, hfz, hnd⟩ := hW
  have hA : DataW.TrodAll enc Try.prog W 0 (fun _ => true) true Try.f5.params.toList args.toList ds p := hA0
  rw [Try.params5] at hA hval
  obtain ⟨v0, vs0, d0, ds0, p0, q0, hargs, rfl, rfl, h0, r0⟩ := trodAll_cons hA
  obtain ⟨v1, vs1, d1, ds1, p1, q1, rfl, rfl, rfl, h1, r1⟩ := trodAll_cons r0
  obtain ⟨v2, vs2, d2, ds2, p2, q2, rfl, rfl, rfl, h2, r2⟩ := trodAll_cons r1
  obtain ⟨rfl, rfl, rfl⟩ := trodAll_nil r2
  obtain rfl : args = #[v0, v1, v2] := by cases args; simp_all
  obtain ⟨rfl, rfl⟩ := trodVars_none hV
  obtain ⟨a0, len0, cap0, rfl⟩ := okWide_slice Try.underlying22 (hval 0 22 v0 rfl rfl)
  have k0 := h0
  have lt0 : ∀ x ∈ p0, x.block < W.heap.size := by obtain ⟨m, hm⟩ := k0; exact DataW.trod_lt m _ _ _ hm
  obtain ⟨z0, w0⟩ : ∃ zs, IsRow .u8 W a0 len0 cap0 zs := by
    obtain ⟨fuel, hf⟩ := h0
    rcases open_ints Try.underlying22 Try.underlying5 (by kernel_rfl) hf with ⟨hcs, _⟩ | ⟨x, l, c, zs, hcs, _, hl, hm, hz, _, hcell, hwz⟩
    · simp [Value.cells] at hcs
      obtain ⟨rfl, rfl, rfl⟩ := hcs
      exact ⟨[], .inl ⟨rfl, rfl, rfl, rfl⟩⟩
    · simp [Value.cells] at hcs
      obtain ⟨rfl, rfl, rfl⟩ := hcs
      exact ⟨zs, .inr ⟨_, rfl, hl, hm, by simpa using hz, hcell, hwz⟩⟩
  obtain ⟨a1, len1, cap1, rfl⟩ := okWide_slice Try.underlying23 (hval 1 23 v1 rfl rfl)
  have k1 := h1
  have lt1 : ∀ x ∈ p1, x.block < W.heap.size := by obtain ⟨m, hm⟩ := k1; exact DataW.trod_lt m _ _ _ hm
  obtain ⟨z1, w1⟩ : ∃ zs, IsRow .i64 W a1 len1 cap1 zs := by
    obtain ⟨fuel, hf⟩ := h1
    rcases open_ints Try.underlying23 Try.underlying3 (by kernel_rfl) hf with ⟨hcs, _⟩ | ⟨x, l, c, zs, hcs, _, hl, hm, hz, _, hcell, hwz⟩
    · simp [Value.cells] at hcs
      obtain ⟨rfl, rfl, rfl⟩ := hcs
      exact ⟨[], .inl ⟨rfl, rfl, rfl, rfl⟩⟩
    · simp [Value.cells] at hcs
      obtain ⟨rfl, rfl, rfl⟩ := hcs
      exact ⟨zs, .inr ⟨_, rfl, hl, hm, by simpa using hz, hcell, hwz⟩⟩
  obtain ⟨a2, rfl, rfl, rfl, w2⟩ := open_int Try.underlying3 (hval 2 3 v2 rfl rfl) h2
  clear hA0 hval0
  refine (walk a0 len0 cap0 z0 a1 len1 cap1 z1 a2 W w0 w1 w2).mono fun e W' ⟨he, bel⟩ => ?_
  subst he
  exact ⟨_, rfl, _, _, _, [], _, [], hW', trodAll_mk1 (shut_bool Try.underlying4 _), (trodAll_cons_mk (Below.trod laidOut (by kernel_rfl) (of_decide_eq_true (by kernel_rfl)) k0 bel lt0) (trodAll_cons_mk (Below.trod laidOut (by kernel_rfl) (of_decide_eq_true (by kernel_rfl)) k1 bel lt1) (trodAll_cons_mk (shut_int Try.underlying3 w2) trodAll_mk0))), rfl, bel.frame _, fun h => by cases h⟩

theorem over : Rows.wireShortRow.holds Try.pinned (OpenSpec.ofChange Rows.wireShortSpec) :=
  OpenClaim.holds_of_wide 5 Try.f5 rfl rfl rfl rfl rfl rfl rfl ⟨rfl, rfl, rfl, rfl, rfl⟩ rfl rfl rfl rfl rfl (by kernel_rfl) Try.func5 (by kernel_rfl)
    (of_decide_eq_true (by kernel_rfl)) (by unfold Func.isWrapper; first | (rw [if_pos (by decide +kernel)]; kernel_rfl) | (rw [if_neg (by decide +kernel)]; exact ⟨rfl, rfl⟩))
    (fun os started H enc _ => lifted os started H enc)

end wireShort

theorem wireShort_holds : Rows.WireShortSaid := wireShort.over
end Go.Proofs.Ytonlkmepdehdgaa
