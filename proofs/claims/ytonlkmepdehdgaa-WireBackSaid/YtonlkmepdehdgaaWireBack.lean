/-
  For every int n, every slice of octets v, every slice of ints l, every flag and every slice of octets tail the statement WireBack returns true: what is put one behind the other, with whatever behind, is got, and then the rest; no condition.
-/
import Derived.Test.YtonlkmepdehdgaaRows
import Derived.Test.YtonlkmepdehdgaaWiBits
import Derived.WalkKit
import Derived.ProofKit
import Derived.OpenShut
import Derived.ShutString
import Derived.ChangeOld
import Derived.Below
namespace Go.Proofs.Ytonlkmepdehdgaa
namespace wireBack
open Go.ChangeShapes Go.WideShapes Go.ChangeAt Go.RowKit
open Go.ChangeMaps (open_string shut_string)
set_option linter.unusedVariables false

theorem own : ownKnob Try.prog.godebug = none := by kernel_rfl
theorem laidOut : laidOutB Try.prog = true := by kernel_rfl


theorem back_num (n : Int) (h0 : 0 ≤ n) (h1 : n < 4294967296) (zs : List Int) : numE (numOct n 4 ++ zs) 4 = 0 ∧ numM (numOct n 4 ++ zs) 4 = n ∧ numR (numOct n 4 ++ zs) 4 = zs := by
  have hw : widthK 4 = 4 := rfl
  have hl := numOct_length n 4
  have hn : ¬ (numOct n 4 ++ zs).length < 4 := by rw [List.length_append]; omega
  refine ⟨?_, ?_, ?_⟩
  · rw [numE, hw, if_neg hn]
  · rw [numM, hw, if_neg hn, List.take_left' hl, num_put n h0 h1]
  · rw [numR, hw, if_neg hn, List.drop_left' hl]

theorem own_empty (W w' : World) (h : Below (W.heap.size + 1) (W.alloc (.cells #[] 5)) w') : w'.ownsRow W.heap.size 5 1 (.slice (some ⟨W.heap.size, 0, none⟩) 0 0) 0 [] :=
  ⟨rfl, .inr ⟨W.heap.size, 0, #[], rfl, Nat.le_refl _, (h.block _ (by omega)).trans (heap_alloc_new W _), Nat.le_refl _, Nat.zero_le _, rfl, rfl⟩⟩

set_option maxHeartbeats 4000000 in
theorem walk (a0 : Int) (a1 : Option Addr) (len1 cap1 : Nat) (z1 : List Int) (a2 : Option Addr) (len2 cap2 : Nat) (z2 : List Int) (a3 : Bool) (a4 : Option Addr) (len4 cap4 : Nat) (z4 : List Int) (w : World) (w0 : (Lit.int .i64 a0).wf = true) (w1 : IsRow .u8 w a1 len1 cap1 z1) (w2 : IsRow .i64 w a2 len2 cap2 z2) (w4 : IsRow .u8 w a4 len4 cap4 z4) :
    Calls Try.prog 4 #[.int .i64 a0, .slice a1 len1 cap1, .slice a2 len2 cap2, .bool a3, .slice a4 len4 cap4] w fun e w' => e = .returned (.bool true) ∧ Below w.heap.size w w' := by
  obtain ⟨hlc, hcm, hO⟩ := oct_of_row w1
  obtain ⟨hlc2, hcm2, hN⟩ := nums_of_row w2
  obtain ⟨hlc4, hcm4, hT⟩ := oct_of_row w4
  clear w1 w2 w4
  generalize z1.take len1 = vs at hO
  generalize z2.take len2 = ls at hN
  generalize z4.take len4 = ts at hT
  have HO := Lib.hid hO
  have HN := Lib.hid hN
  have HT := Lib.hid hT
  clear hO hN hT
  by_cases h1 : 1000 < len1
  · go_enter Try.func4, Try.ntmps4
    go_wp2_with fail
    refine (awake_any _).mono ?_
    rintro e w1 ⟨rfl, hb⟩
    go_wp2_with fail
    go_ret
    exact ⟨rfl, hb⟩
  by_cases h2 : 100 < len2
  · go_enter Try.func4, Try.ntmps4
    go_wp2_with fail
    refine (awake_any _).mono ?_
    rintro e w1 ⟨rfl, hb⟩
    go_wp2_with fail
    go_ret
    exact ⟨rfl, hb⟩
  by_cases h3 : 1000 < len4
  · go_enter Try.func4, Try.ntmps4
    go_wp2_with fail
    refine (awake_any _).mono ?_
    rintro e w1 ⟨rfl, hb⟩
    go_wp2_with fail
    go_ret
    exact ⟨rfl, hb⟩
  by_cases h4 : a0 < 0
  · go_enter Try.func4, Try.ntmps4
    go_wp2_with fail
    refine (awake_any _).mono ?_
    rintro e w1 ⟨rfl, hb⟩
    go_wp2_with fail
    go_ret
    exact ⟨rfl, hb⟩
  by_cases h5 : 4294967296 ≤ a0
  · go_enter Try.func4, Try.ntmps4
    go_wp2_with fail
    refine (awake_any _).mono ?_
    rintro e w1 ⟨rfl, hb⟩
    go_wp2_with fail
    go_ret
    exact ⟨rfl, hb⟩
  have l1 : Hid (vs.length = len1) := HO.out.1
  have l2 : Hid (ls.length = len2) := HN.out.1
  have l4 : Hid (ts.length = len4) := HT.out.1
  go_enter Try.func4, Try.ntmps4
  go_wp2_with fail
  refine (awake_any _).mono ?_
  rintro e w1 ⟨rfl, hb⟩
  have k1 := hb.size
  go_wp2_with fail
  go_loop [12] (fun i => ∃ j : Nat, j ≤ len2 ∧ i = .int .i64 j ∧ ∀ y ∈ ls.take j, 0 ≤ y ∧ y < 4294967296) (fun i => len2 - (intOf i).toNat)
  case atStart => exact ⟨0, Nat.zero_le _, rfl, by simp⟩
  case round =>
    obtain ⟨j, hj, rfl, hy⟩ := hrel
    have HY := Lib.hid hy
    clear hy
    by_cases hlt : j < len2
    · have hjl : j < ls.length := by rw [l2.out]; exact hlt
      obtain ⟨b2, o2, ha, hB2, hc2⟩ := (HN.out.below hb).2 (by omega)
      subst ha
      have e1 := hc2 j ls[j] (List.getElem?_eq_getElem hjl)
      clear hc2
      have HT1 := Lib.hid (List.take_succ_eq_append_getElem hjl)
      generalize ls[j] = y at *
      by_cases hy0 : y < 0
      · go_wp2
        go_ret
        exact ⟨rfl, hb⟩
      · by_cases hy1 : 4294967296 ≤ y
        · go_wp2
          go_ret
          exact ⟨rfl, hb⟩
        · go_wp2
          go_round
          case rel =>
            refine ⟨j + 1, by omega, by go_num, fun z hz => ?_⟩
            rw [HT1.out] at hz
            rcases List.mem_append.1 hz with h | h
            · exact HY.out z h
            · rw [List.mem_singleton] at h; omega
          case measure => simp [intOf]; omega
    · obtain rfl : j = len2 := by omega
      have HA : Hid (∀ y ∈ ls, 0 ≤ y ∧ y < 4294967296) := by
        have := HY.out
        rw [← l2.out, List.take_length] at this
        exact this
      clear hlt hj HY
      go_wp2_with fail
      have ka : (w1.alloc (.cells #[] 5)).heap.size = w1.heap.size + 1 := by simp
      have ba : Below w1.heap.size w1 (w1.alloc (.cells #[] 5)) := (Below.refl _ _).alloc (Nat.le_refl _) _
      have Oe := Lib.hid (own_empty w1)
      have ua : Below w.heap.size w (w1.alloc (.cells #[] 5)) := hb.trans (ba.mono k1)
      generalize w1.alloc (.cells #[] 5) = wa at *
      refine (putNum_any none 0 0 0 [] a0 4 wa (Oct.nil _ _ _) (Nat.zero_le _) (Nat.zero_le _)).mono ?_
      rw [List.nil_append, show widthK 4 = 4 from rfl]
      rintro e w2 ⟨A2, n2, c2, rfl, g21, g22, hO2, hb2⟩
      have k2 := hb2.size
      have u2 : Below w.heap.size w w2 := ua.trans (hb2.mono (by omega))
      have HO2 := Lib.hid hO2
      have m2 : n2 ≤ 4 := by rw [← hO2.1, numOct_length]; exact Nat.le_refl _
      clear hO2
      go_wp2_with fail
      refine (putBytes_any A2 a1 n2 c2 len1 cap1 w2.heap.size _ vs w2 HO2.out ((HO.out.below u2).more (by omega)) (Nat.le_refl _) g21 g22 (by omega)).mono ?_
      rintro e w3 ⟨A3, n3, c3, rfl, g31, g32, hO3, hb3⟩
      have k3 := hb3.size
      have u3 : Below w.heap.size w w3 := u2.trans (hb3.mono (by omega))
      have HO3 := Lib.hid hO3
      have m3 : n3 ≤ 2000 := by
        rw [← hO3.1, List.length_append, HO2.out.1, bytesOct_length (by rw [l1.out]; omega), l1.out]
        have := octN_le (len1 : Int)
        omega
      clear hO3
      go_wp2_with fail
      refine (putNums_any A3 a2 n3 c3 j cap2 w3.heap.size _ ls w3 HO3.out ((HN.out.below u3).more (by omega)) (Nat.le_refl _) g31 g32 (by omega)).mono ?_
      rintro e w4 ⟨A4, n4, c4, rfl, g41, g42, hO4, hb4⟩
      have k4 := hb4.size
      have u4 : Below w.heap.size w w4 := u3.trans (hb4.mono (by omega))
      have HO4 := Lib.hid hO4
      have m4 : n4 ≤ 3000 := by
        have e4 := numsOct_length ls
        rw [l2.out] at e4
        rw [← hO4.1, List.length_append, HO3.out.1, bytesOct_length (by rw [e4]; omega), e4]
        have := octN_le ((4 * j : Nat) : Int)
        omega
      clear hO4
      go_wp2_with fail
      refine (putFlag_any A4 n4 c4 w4.heap.size _ a3 w4 HO4.out (Nat.le_refl _) (by omega)).mono ?_
      rintro e w5 ⟨A5, n5, c5, rfl, g51, g52, hO5, hb5⟩
      have k5 := hb5.size
      have u5 : Below w.heap.size w w5 := u4.trans (hb5.mono (by omega))
      have HO5 := Lib.hid hO5
      have m5 : n5 ≤ 3001 := by
        rw [← hO5.1, List.length_append, HO4.out.1]
        show n4 + 1 ≤ 3001
        omega
      clear hO5
      have OW := Lib.hid (Oe.out w5 (((hb2.trans (hb3.mono k2)).trans (hb4.mono (by omega)) |>.trans (hb5.mono (by omega))).mono (by omega)))
      clear Oe
      have HM := Lib.hid HO5.out.2.1
      have HTs := Lib.hid HT.out.2.1
      generalize hX : numOct a0 4 ++ bytesOct vs ++ bytesOct (numsOct ls) ++ flagOct a3 = X at HO5 HM
      have HX : Hid (X ++ ts = numOct a0 4 ++ (bytesOct vs ++ (bytesOct (numsOct ls) ++ (flagOct a3 ++ ts)))) := by
        show _ = _
        rw [← hX]; simp only [List.append_assoc]
      clear hX HO2 HO3 HO4
      have b1 : Below w1.heap.size w1 w5 := (((ba.trans (hb2.mono (by omega))).trans (hb3.mono (by omega))).trans (hb4.mono (by omega))).trans (hb5.mono (by omega))
      have HY : Hid (∀ y ∈ X ++ ts, 0 ≤ y ∧ y ≤ 255) := fun y hy => by
        rcases List.mem_append.1 hy with h | h
        · exact HM.out y h
        · exact HTs.out y h
      have x5 : X.length = n5 := HO5.out.1
      have X5 := Lib.hid x5
      clear x5
      have e1 : (a0 == a0) = true := by simp
      have e2 : (a3 == a3) = true := by simp
      go_wp2_with (first
        | (at_builtin
           refine wpList_append_oct _ rfl (.tmp 68) (.tmp 76) rfl rfl w1.heap.size (.slice (some ⟨w1.heap.size, 0, none⟩) 0 0) [] X A5 n5 c5 w5.heap.size rfl rfl ?hown ?hO ?hb ?hbase ?_
           case hown => exact OW.out
           case hO => exact HO5.out
           case hb => simp; omega
           case hbase => exact b1.size
           intro v6 w6 hj6
           have hb6 := joined_below OW.out hj6 b1 b1.size
           have h6 := hj6.1
           rw [List.nil_append, List.length_nil, Nat.zero_add, X5.out] at h6
           obtain ⟨A6, c6, rfl, g61, g62, hO6⟩ := own_sl h6 HM.out
           have H6 := Lib.hid h6
           clear hO6 h6 hj6
           have hOt : Oct w6 w.heap.size a4 len4 ts := HT.out.below (hb.trans (hb6.1.mono k1))
           have HOt := Lib.hid hOt
           clear hOt)
        | (at_builtin
           refine wpList_append_oct _ rfl (.tmp 78) (.tmp 79) rfl rfl w1.heap.size (.slice A6 n5 c6) X ts a4 len4 cap4 w.heap.size rfl rfl ?hown ?hO ?hb ?hbase ?_
           case hown => rw [X5.out]; exact H6.out
           case hO => exact HOt.out
           case hb => rw [X5.out]; omega
           case hbase => exact hb6.2
           intro v7 w7 hj7
           have hb7 := joined_below H6.out hj7 hb6.1 hb6.2
           have h7 := hj7.1
           obtain ⟨A7, c7, rfl, g71, g72, hO7⟩ := own_sl h7 HY.out
           rw [HX.out] at hO7
           generalize X.length + ts.length = n7 at *
           have HO7 := Lib.hid hO7
           have u7 : Below w.heap.size w w7 := hb.trans (hb7.1.mono k1)
           clear hO7 h7 hj7)
        | (go_at_call 10
           refine (getNum_any A7 n7 c7 w7.heap.size _ 4 w7 HO7.out g71 g72).mono ?_
           rw [(back_num a0 h4 h5 _).1, (back_num a0 h4 h5 _).2.1, (back_num a0 h4 h5 _).2.2]
           rintro e w8 ⟨A8, n8, c8, rfl, g81, g82, hO8, hb8⟩
           have HO8 := Lib.hid hO8
           have k8 := hb8.size
           clear hO8 HO7)
        | (go_at_call 12
           refine (getBytes_any A8 n8 c8 w7.heap.size _ w8 HO8.out g81 g82 k8).mono ?_
           rw [(bytes_put vs _ (by rw [l1.out]; omega)).1, (bytes_put vs _ (by rw [l1.out]; omega)).2.1, (bytes_put vs _ (by rw [l1.out]; omega)).2.2]
           rintro e w9 ⟨A9, n9, c9, A10, n10, c10, rfl, g91, g92, g101, g102, hO9, hO10, hb9⟩
           have HO9 := Lib.hid hO9
           have HO10 := Lib.hid hO10
           have k9 := hb9.size
           clear hO9 hO10 HO8)
        | (go_at_call 14
           refine (getNums_any A10 n10 c10 w7.heap.size _ w9 HO10.out g101 g102 (by omega)).mono ?_
           rw [(nums_put ls _ (by rw [l2.out]; omega) HA.out).1, (nums_put ls _ (by rw [l2.out]; omega) HA.out).2.1, (nums_put ls _ (by rw [l2.out]; omega) HA.out).2.2]
           rintro e w10 ⟨A11, n11, c11, A12, n12, c12, rfl, g121, g122, hN11, hO12, hb10⟩
           obtain rfl : n11 = j := by rw [← hN11.1, l2.out]
           have HN11 := Lib.hid hN11
           have HO12 := Lib.hid hO12
           have k10 := hb10.size
           clear hN11 hO12 HO10)
        | (go_at_call 16
           refine (getFlag_any A12 n12 c12 w7.heap.size _ w10 HO12.out g121 g122).mono ?_
           rw [(flag_put a3 ts).1, (flag_put a3 ts).2.1, (flag_put a3 ts).2.2]
           rintro e w11 ⟨A13, n13, c13, rfl, g131, g132, hO13, hb11⟩
           have k11 := hb11.size
           have b9 : Below w9.heap.size w9 w11 := hb10.trans (hb11.mono k10)
           have u11 : Below w.heap.size w w11 := u7.trans (((hb8.trans (hb9.mono k8)).trans (b9.mono (by omega))).mono u7.size)
           have HO13 := Lib.hid hO13
           have HN13 := Lib.hid (HN11.out.below hb11)
           have HN2 := Lib.hid (HN.out.below u11)
           have y1 : (convert 22 9 (.slice A9 n9 c9)).run Try.prog w11 = .ok (.string (strOfNums vs)) w11 := (HO9.out.below (b9.mono (by omega))).str _
           have y2 : (convert 22 9 (.slice a1 len1 cap1)).run Try.prog w11 = .ok (.string (strOfNums vs)) w11 := (HO.out.below u11).str _
           clear hO13)
        | (go_at_call 18
           refine (ints_same A11 a2 _ c11 cap2 w10.heap.size w.heap.size ls _ HN13.out HN2.out (by omega)).mono ?_
           rintro e w12 ⟨rfl, d, rfl⟩
           have y3 : (convert 22 9 (.slice A13 n13 c13)).run Try.prog (w11.drewN d) = .ok (.string (strOfNums ts)) (w11.drewN d) := (HO13.out.drewN d).str _
           have y4 : (convert 22 9 (.slice a4 len4 cap4)).run Try.prog (w11.drewN d) = .ok (.string (strOfNums ts)) (w11.drewN d) := ((HT.out.below u11).drewN d).str _))
      go_ret
      exact ⟨rfl, below_drewN u11 _⟩

set_option maxRecDepth 100000 in
theorem lifted (os : Os) (started : os.Started) (H : Type) (enc : TypeId × Value → H) :
    ReturnsInHanded {} Try.checked os 4 .any (Rows.wireBackSpec.pre6 enc Try.prog Try.f4 Rows.wireBackRow.domain false) (Rows.wireBackSpec.post enc Try.prog Try.f4 false true false false) := by
  refine returnsInHanded_of_change (C := Try.checked) own started (by kernel_rfl) Try.func4
    (ChangeSpec.witness6 (enc := enc) (C := Try.checked) false ⟨#[], #[.int .i64 0, .slice none 0 0, .slice none 0 0, .bool false, .slice none 0 0], []⟩ 8 (by kernel_rfl) (by kernel_rfl) (by kernel_rfl) (by kernel_rfl)) ?_
  intro W base args ds gs before hval0 hW hcnd _
  have hval : ∀ (j : Nat) t v, Try.f4.params[j]? = some t → args[j]? = some v → Value.okWide Try.prog W .any base t v := hval0
  have hW' := hW
  obtain ⟨p, q, hA0, hV, rfl, hfz, hnd⟩ := hW
  have hA : DataW.TrodAll enc Try.prog W 0 (fun _ => true) true Try.f4.params.toList args.toList ds p := hA0
  rw [Try.params4] at hA hval
  obtain ⟨v0, vs0, d0, ds0, p0, q0, hargs, rfl, rfl, h0, r0⟩ := trodAll_cons hA
  obtain ⟨v1, vs1, d1, ds1, p1, q1, rfl, rfl, rfl, h1, r1⟩ := trodAll_cons r0
  obtain ⟨v2, vs2, d2, ds2, p2, q2, rfl, rfl, rfl, h2, r2⟩ := trodAll_cons r1
  obtain ⟨v3, vs3, d3, ds3, p3, q3, rfl, rfl, rfl, h3, r3⟩ := trodAll_cons r2
  obtain ⟨v4, vs4, d4, ds4, p4, q4, rfl, rfl, rfl, h4, r4⟩ := trodAll_cons r3
  obtain ⟨rfl, rfl, rfl⟩ := trodAll_nil r4
  obtain rfl : args = #[v0, v1, v2, v3, v4] := by cases args; simp_all
  obtain ⟨rfl, rfl⟩ := trodVars_none hV
  obtain ⟨a0, rfl, rfl, rfl, w0⟩ := open_int Try.underlying3 (hval 0 3 v0 rfl rfl) h0
  obtain ⟨a1, len1, cap1, rfl⟩ := okWide_slice Try.underlying22 (hval 1 22 v1 rfl rfl)
  have k1 := h1
  have lt1 : ∀ x ∈ p1, x.block < W.heap.size := by obtain ⟨m, hm⟩ := k1; exact DataW.trod_lt m _ _ _ hm
  obtain ⟨z1, w1⟩ : ∃ zs, IsRow .u8 W a1 len1 cap1 zs := by
    obtain ⟨fuel, hf⟩ := h1
    rcases open_ints Try.underlying22 Try.underlying5 (by kernel_rfl) hf with ⟨hcs, _⟩ | ⟨x, l, c, zs, hcs, _, hl, hm, hz, _, hcell, hwz⟩
    · simp [Value.cells] at hcs
      obtain ⟨rfl, rfl, rfl⟩ := hcs
      exact ⟨[], .inl ⟨rfl, rfl, rfl, rfl⟩⟩
    · simp [Value.cells] at hcs
      obtain ⟨rfl, rfl, rfl⟩ := hcs
      exact ⟨zs, .inr ⟨_, rfl, hl, hm, by simpa using hz, hcell, hwz⟩⟩
  obtain ⟨a2, len2, cap2, rfl⟩ := okWide_slice Try.underlying23 (hval 2 23 v2 rfl rfl)
  have k2 := h2
  have lt2 : ∀ x ∈ p2, x.block < W.heap.size := by obtain ⟨m, hm⟩ := k2; exact DataW.trod_lt m _ _ _ hm
  obtain ⟨z2, w2⟩ : ∃ zs, IsRow .i64 W a2 len2 cap2 zs := by
    obtain ⟨fuel, hf⟩ := h2
    rcases open_ints Try.underlying23 Try.underlying3 (by kernel_rfl) hf with ⟨hcs, _⟩ | ⟨x, l, c, zs, hcs, _, hl, hm, hz, _, hcell, hwz⟩
    · simp [Value.cells] at hcs
      obtain ⟨rfl, rfl, rfl⟩ := hcs
      exact ⟨[], .inl ⟨rfl, rfl, rfl, rfl⟩⟩
    · simp [Value.cells] at hcs
      obtain ⟨rfl, rfl, rfl⟩ := hcs
      exact ⟨zs, .inr ⟨_, rfl, hl, hm, by simpa using hz, hcell, hwz⟩⟩
  obtain ⟨a3, rfl, rfl, rfl⟩ := open_bool Try.underlying4 (hval 3 4 v3 rfl rfl) h3
  obtain ⟨a4, len4, cap4, rfl⟩ := okWide_slice Try.underlying22 (hval 4 22 v4 rfl rfl)
  have k4 := h4
  have lt4 : ∀ x ∈ p4, x.block < W.heap.size := by obtain ⟨m, hm⟩ := k4; exact DataW.trod_lt m _ _ _ hm
  obtain ⟨z4, w4⟩ : ∃ zs, IsRow .u8 W a4 len4 cap4 zs := by
    obtain ⟨fuel, hf⟩ := h4
    rcases open_ints Try.underlying22 Try.underlying5 (by kernel_rfl) hf with ⟨hcs, _⟩ | ⟨x, l, c, zs, hcs, _, hl, hm, hz, _, hcell, hwz⟩
    · simp [Value.cells] at hcs
      obtain ⟨rfl, rfl, rfl⟩ := hcs
      exact ⟨[], .inl ⟨rfl, rfl, rfl, rfl⟩⟩
    · simp [Value.cells] at hcs
      obtain ⟨rfl, rfl, rfl⟩ := hcs
      exact ⟨zs, .inr ⟨_, rfl, hl, hm, by simpa using hz, hcell, hwz⟩⟩
  clear hA0 hval0
  refine (walk a0 a1 len1 cap1 z1 a2 len2 cap2 z2 a3 a4 len4 cap4 z4 W w0 w1 w2 w4).mono fun e W' ⟨he, bel⟩ => ?_
  subst he
  exact ⟨_, rfl, _, _, _, [], _, [], hW', trodAll_mk1 (shut_bool Try.underlying4 _), (trodAll_cons_mk (shut_int Try.underlying3 w0) (trodAll_cons_mk (Below.trod laidOut (by kernel_rfl) (of_decide_eq_true (by kernel_rfl)) k1 bel lt1) (trodAll_cons_mk (Below.trod laidOut (by kernel_rfl) (of_decide_eq_true (by kernel_rfl)) k2 bel lt2) (trodAll_cons_mk (shut_bool Try.underlying4 _) (trodAll_cons_mk (Below.trod laidOut (by kernel_rfl) (of_decide_eq_true (by kernel_rfl)) k4 bel lt4) trodAll_mk0))))), rfl, bel.frame _, fun h => by cases h⟩

theorem over : Rows.wireBackRow.holds Try.pinned (OpenSpec.ofChange Rows.wireBackSpec) :=
  OpenClaim.holds_of_wide 4 Try.f4 rfl rfl rfl rfl rfl rfl rfl ⟨rfl, rfl, rfl, rfl, rfl⟩ rfl rfl rfl rfl rfl (by kernel_rfl) Try.func4 (by kernel_rfl)
    (of_decide_eq_true (by kernel_rfl)) (by unfold Func.isWrapper; first | (rw [if_pos (by decide +kernel)]; kernel_rfl) | (rw [if_neg (by decide +kernel)]; exact ⟨rfl, rfl⟩))
    (fun os started H enc _ => lifted os started H enc)

end wireBack

theorem wireBack_holds : Rows.WireBackSaid := wireBack.over
end Go.Proofs.Ytonlkmepdehdgaa
