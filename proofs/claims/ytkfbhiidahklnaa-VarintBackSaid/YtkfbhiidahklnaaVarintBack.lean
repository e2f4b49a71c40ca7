/-
  For every int n and every slice of octets tail the statement VarintBack returns true: what is put is got, with whatever behind, and no octet of it can be missing; no condition.
-/
import Derived.Test.YtkfbhiidahklnaaRows
import Derived.Test.YtkfbhiidahklnaaApp
import Derived.WalkKit
import Derived.ProofKit
import Derived.OpenShut
import Derived.ShutString
import Derived.ChangeOld
import Derived.Below
namespace Go.Proofs.Ytkfbhiidahklnaa
namespace varintBack
open Go.ChangeShapes Go.WideShapes Go.ChangeAt Go.RowKit
open Go.ChangeMaps (open_string shut_string)
set_option linter.unusedVariables false

theorem own : ownKnob Try.prog.godebug = none := by kernel_rfl
theorem laidOut : laidOutB Try.prog = true := by kernel_rfl


set_option maxHeartbeats 1000000 in
theorem walk (a0 : Int) (a1 : Option Addr) (len1 cap1 : Nat) (z1 : List Int) (w : World) (w0 : (Lit.int .i64 a0).wf = true) (w1 : IsRow .u8 w a1 len1 cap1 z1) :
    Calls Try.prog 4 #[.int .i64 a0, .slice a1 len1 cap1] w fun e w' => e = .returned (.bool true) ∧ Below w.heap.size w w' := by
  obtain ⟨hlc, hcm, hO⟩ := oct_of_row w1
  clear w1
  generalize z1.take len1 = ts at hO
  have HO := Lib.hid hO
  clear hO
  obtain ⟨L, hL⟩ : ∃ L, (octN a0).length = L := ⟨_, rfl⟩
  have hL4 : L ≤ 4 := by rw [← hL]; exact octN_le a0
  have HL := Lib.hid hL
  clear hL
  have hne : ((L : Int) != (L : Int)) = false := by simp
  have heq : ((L : Int) == (L : Int)) = true := by simp
  by_cases hbig : 1000 < len1
  · go_enter Try.func4, Try.ntmps4
    go_wp2_with fail
    refine (awake_any _).mono ?_
    rintro e w1 ⟨rfl, hb⟩
    go_wp2_with fail
    refine (size_len a0 L _ HL.out).mono ?_
    rintro e w' ⟨rfl, rfl⟩
    go_wp2_with fail
    refine (put_new a0 _).mono ?_
    rw [HL.out]
    rintro e w2 ⟨A2, c2, rfl, hLc, hc2, hO2, hb2⟩
    go_wp2_with fail
    go_ret
    exact ⟨rfl, hb.trans (hb2.mono hb.size)⟩
  · have hsm : decide ((1000 : Int) < (len1 : Int)) = false := by simp; omega
    by_cases hL0 : L = 0
    · subst hL0
      have hz : Hid (sizeN a0 = 0) := by
        show sizeN a0 = 0
        have := octN_length a0
        rw [HL.out] at this
        simpa using this.symm
      have hor : a0 < 0 ∨ 1073741823 < a0 := by
        rcases sizeN_cases a0 with h | h | h | h
        · exact h.2
        · rw [hz.out] at h; simp at h
        · rw [hz.out] at h; simp at h
        · rw [hz.out] at h; simp at h
      by_cases hneg : a0 < 0
      all_goals
        go_enter Try.func4, Try.ntmps4
        go_wp2_with fail
        refine (awake_any _).mono ?_
        rintro e w1 ⟨rfl, hb⟩
        go_wp2_with fail
        refine (size_len a0 0 _ HL.out).mono ?_
        rintro e w' ⟨rfl, rfl⟩
        go_wp2_with fail
        refine (put_new a0 _).mono ?_
        rw [HL.out]
        rintro e w2 ⟨A2, c2, rfl, hLc, hc2, hO2, hb2⟩
        go_wp2_with fail
        go_ret
        first | exact ⟨rfl, hb.trans (hb2.mono hb.size)⟩ | exact ⟨by simp; omega, hb.trans (hb2.mono hb.size)⟩
    · have hLz : ((L : Int) == 0) = false := by simp; omega
      go_enter Try.func4, Try.ntmps4
      go_wp2_with fail
      refine (awake_any _).mono ?_
      rintro e w1 ⟨rfl, hb⟩
      go_wp2_with fail
      refine (size_len a0 L _ HL.out).mono ?_
      rintro e w' ⟨rfl, rfl⟩
      go_wp2_with fail
      refine (put_new a0 _).mono ?_
      rw [HL.out]
      rintro e w2 ⟨A2, c2, rfl, hLc, hc2, hO2, hb2⟩
      have HO2 := Lib.hid hO2
      clear hO2
      have hc2' : c2 ≤ 9223372036854775807 := hc2
      go_wp2_with fail
      go_loop [8] (fun i => ∃ j : Nat, j ≤ L ∧ i = .int .i64 j) (fun i => L - (intOf i).toNat)
      case atStart => exact ⟨0, Nat.zero_le _, rfl⟩
      case round =>
        obtain ⟨j, hj, rfl⟩ := hrel
        by_cases hlt : j < L
        · have hg : getE ((octN a0).take j) = 1 := got_cut a0 j (by rw [HL.out]; exact hlt)
          have Hg := Lib.hid (get_bad A2 j c2 _ _ w2 (HO2.out.upto j (by omega)) (by omega) hc2 (by rw [hg]; decide))
          rw [hg] at Hg
          clear hg
          go_wp2_with (go_at_call 10; refine Hg.out.mono ?_; rintro e w' ⟨rfl, rfl⟩)
          go_round
          case rel => exact ⟨j + 1, by omega, by go_num⟩
          case measure => simp [intOf]; omega
        · obtain rfl : j = L := by omega
          clear hlt hj
          have k1 := hb.size
          have k2 := hb2.size
          have hts := HO.out.2.1
          have hms := HO2.out.2.1
          have hy : ∀ y ∈ octN a0 ++ ts, 0 ≤ y ∧ y ≤ 255 := fun y hy => by
            rcases List.mem_append.1 hy with h | h
            · exact hms y h
            · exact hts y h
          have HT := Lib.hid hts
          have HM := Lib.hid hms
          have HY := Lib.hid hy
          clear hts hms hy
          have ow : ∀ W : World, (W.alloc (.cells #[] 5)).ownsRow W.heap.size 5 1 (.slice (some ⟨W.heap.size, 0, none⟩) 0 0) 0 [] := fun W =>
            ⟨rfl, .inr ⟨W.heap.size, 0, #[], rfl, Nat.le_refl _, heap_alloc_new W _, Nat.le_refl _, Nat.zero_le _, rfl, rfl⟩⟩
          have OW := Lib.hid (ow w2)
          clear ow
          have HZ : Hid (sizeN a0 ≠ 0) := by
            show sizeN a0 ≠ 0
            have := octN_length a0
            rw [HL.out] at this
            omega
          go_wp2_with (first
            | (at_builtin
               refine wpList_append_oct _ rfl (.tmp 63) (.tmp 64) rfl rfl w2.heap.size (.slice (some ⟨w2.heap.size, 0, none⟩) 0 0) [] (octN a0) A2 j c2 w2.heap.size rfl rfl ?hown ?hO ?hb ?hbase ?_
               case hown => exact OW.out
               case hO => exact HO2.out.below ((Below.refl _ _).alloc (Nat.le_refl _) _)
               case hb => simp; omega
               case hbase => simp
               intro v3 w3 hj3
               have hb3 := joined_below OW.out hj3 ((Below.refl _ _).alloc (Nat.le_refl _) _) (by simp)
               have h3 := hj3.1
               rw [List.nil_append, List.length_nil, Nat.zero_add] at h3
               obtain ⟨g3, c3, rfl, hjc3, hc3, hg3, hO3⟩ := own_slice h3 (by rw [HL.out]; omega) HM.out
               have H3 := Lib.hid h3
               clear hO3 h3 hj3
               have hO5 : Oct w3 w.heap.size a1 len1 ts := HO.out.below ((hb.trans (hb2.mono k1)).trans (hb3.1.mono (by omega)))
               have HO5 := Lib.hid hO5
               clear hO5)
            | (at_builtin
               refine wpList_append_oct _ rfl (.tmp 66) (.tmp 67) rfl rfl w2.heap.size (.slice (some ⟨g3, 0, none⟩) (octN a0).length c3) (octN a0) ts a1 len1 cap1 w.heap.size rfl rfl ?hown ?hO ?hb ?hbase ?_
               case hown => exact H3.out
               case hO => exact HO5.out
               case hb => rw [HL.out]; omega
               case hbase => exact hb3.2
               intro v4 w4 hj4
               have hb4 := joined_below H3.out hj4 hb3.1 hb3.2
               have h4 := hj4.1
               rw [HL.out, HO.out.1] at h4
               obtain ⟨g4, c4, rfl, hjc4, hc4, hg4, hO4⟩ := own_slice h4 (by omega) HY.out
               have H4 := Lib.hid hO4
               clear hO4 h4 hj4)
            | (go_at_call 10
               refine (get_some _ _ _ _ _ _ H4.out hjc4 hc4 (got_put a0 ts ?hz).1).mono ?_
               case hz => exact HZ.out
               rw [(got_put a0 ts HZ.out).2.1, (got_put a0 ts HZ.out).2.2, HL.out]
               rintro e w5 ⟨A5, rfl, hO5, hb5⟩
               rw [Nat.add_sub_cancel_left, show (octN a0 ++ ts).drop j = ts from by rw [← HL.out]; simp] at hO5
               have q4 : Below w.heap.size w w4 := (hb.trans (hb2.mono k1)).trans (hb4.1.mono (by omega))
               have q5 : Below w.heap.size w w5 := q4.trans (hb5.mono q4.size)
               have x5 : (convert 22 9 (.slice A5 len1 (c4 - j))).run Try.prog w5 = .ok (.string (strOfNums ts)) w5 := hO5.str _
               have x1 : (convert 22 9 (.slice a1 len1 cap1)).run Try.prog w5 = .ok (.string (strOfNums ts)) w5 := (HO.out.below q5).str _
               clear hO5))
          go_ret
          exact ⟨rfl, q5⟩

set_option maxRecDepth 100000 in
theorem lifted (os : Os) (started : os.Started) (H : Type) (enc : TypeId × Value → H) :
    ReturnsInHanded {} Try.checked os 4 .any (Rows.varintBackSpec.pre6 enc Try.prog Try.f4 Rows.varintBackRow.domain false) (Rows.varintBackSpec.post enc Try.prog Try.f4 false true false false) := by
  refine returnsInHanded_of_change (C := Try.checked) own started (by kernel_rfl) Try.func4
    (ChangeSpec.witness6 (enc := enc) (C := Try.checked) false ⟨#[], #[.int .i64 0, .slice none 0 0], []⟩ 8 (by kernel_rfl) (by kernel_rfl) (by kernel_rfl) (by kernel_rfl)) ?_
  intro W base args ds gs before hval0 hW hcnd _
  have hval : ∀ (j : Nat) t v, Try.f4.params[j]? = some t → args[j]? = some v → Value.okWide Try.prog W .any base t v := hval0
  have hW' := hW
  obtain ⟨p, q, hA0, hV, rfl, hfz, hnd⟩ := hW
  have hA : DataW.TrodAll enc Try.prog W 0 (fun _ => true) true Try.f4.params.toList args.toList ds p := hA0
  rw [Try.params4] at hA hval
  obtain ⟨v0, vs0, d0, ds0, p0, q0, hargs, rfl, rfl, h0, r0⟩ := trodAll_cons hA
  obtain ⟨v1, vs1, d1, ds1, p1, q1, rfl, rfl, rfl, h1, r1⟩ := trodAll_cons r0
  obtain ⟨rfl, rfl, rfl⟩ := trodAll_nil r1
  obtain rfl : args = #[v0, v1] := by cases args; simp_all
  obtain ⟨rfl, rfl⟩ := trodVars_none hV
  obtain ⟨a0, rfl, rfl, rfl, w0⟩ := open_int Try.underlying3 (hval 0 3 v0 rfl rfl) h0
  obtain ⟨a1, len1, cap1, rfl⟩ := okWide_slice Try.underlying22 (hval 1 22 v1 rfl rfl)
  have k1 := h1
  have lt1 : ∀ x ∈ p1, x.block < W.heap.size := by obtain ⟨m, hm⟩ := k1; exact DataW.trod_lt m _ _ _ hm
  obtain ⟨z1, w1⟩ : ∃ zs, IsRow .u8 W a1 len1 cap1 zs := by
    obtain ⟨fuel, hf⟩ := h1
    rcases open_ints Try.underlying22 Try.underlying5 (by kernel_rfl) hf with ⟨hcs, _⟩ | ⟨x, l, c, zs, hcs, _, hl, hm, hz, _, hcell, hwz⟩
    · simp [Value.cells] at hcs
      obtain ⟨rfl, rfl, rfl⟩ := hcs
      exact ⟨[], .inl ⟨rfl, rfl, rfl, rfl⟩⟩
    · simp [Value.cells] at hcs
      obtain ⟨rfl, rfl, rfl⟩ := hcs
      exact ⟨zs, .inr ⟨_, rfl, hl, hm, by simpa using hz, hcell, hwz⟩⟩
  clear hA0 hval0
  refine (walk a0 a1 len1 cap1 z1 W w0 w1).mono fun e W' ⟨he, bel⟩ => ?_
  subst he
  exact ⟨_, rfl, _, _, _, [], _, [], hW', trodAll_mk1 (shut_bool Try.underlying4 _), (trodAll_cons_mk (shut_int Try.underlying3 w0) (trodAll_cons_mk (Below.trod laidOut (by kernel_rfl) (of_decide_eq_true (by kernel_rfl)) k1 bel lt1) trodAll_mk0)), rfl, bel.frame _, fun h => by cases h⟩

theorem over : Rows.varintBackRow.holds Try.pinned (OpenSpec.ofChange Rows.varintBackSpec) :=
  OpenClaim.holds_of_wide 4 Try.f4 rfl rfl rfl rfl rfl rfl rfl ⟨rfl, rfl, rfl, rfl, rfl⟩ rfl rfl rfl rfl rfl (by kernel_rfl) Try.func4 (by kernel_rfl)
    (of_decide_eq_true (by kernel_rfl)) (by unfold Func.isWrapper; first | (rw [if_pos (by decide +kernel)]; kernel_rfl) | (rw [if_neg (by decide +kernel)]; exact ⟨rfl, rfl⟩))
    (fun os started H enc _ => lifted os started H enc)

end varintBack

theorem varintBack_holds : Rows.VarintBackSaid := varintBack.over
end Go.Proofs.Ytkfbhiidahklnaa
