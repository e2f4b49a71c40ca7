/-
  For all slices of octets b and v, every slice of ints l and all ints n and k the statement WireIs returns true: what is put, and got, is what the document's own answers say; no condition.
-/
import Derived.Test.YtonlkmepdehdgaaRows
import Derived.Test.YtonlkmepdehdgaaWiBits
import Derived.Test.YtonlkmepdehdgaaSeq
import Derived.Test.YtonlkmepdehdgaaWiRefN
import Derived.WalkKit
import Derived.ProofKit
import Derived.OpenShut
import Derived.ShutString
import Derived.ChangeOld
import Derived.Below
namespace Go.Proofs.Ytonlkmepdehdgaa
namespace wireIs
open Go.ChangeShapes Go.WideShapes Go.ChangeAt Go.RowKit
open Go.ChangeMaps (open_string shut_string)
set_option linter.unusedVariables false

theorem own : ownKnob Try.prog.godebug = none := by kernel_rfl
theorem laidOut : laidOutB Try.prog = true := by kernel_rfl


/-- A slice of octets that was there reads as the same string in every later world. -/
theorem conv_keep {w4 W : World} {B n c : Nat} {A : Option Addr} {xs : List Int} {s : ByteArray} (h : Oct w4 B A n xs) (hB : B ≤ w4.heap.size) (p : Below w4.heap.size w4 W) (hs : strOfNums xs = s) :
    ∀ w', Below W.heap.size W w' → (convert 22 9 (.slice A n c)).run Try.prog w' = .ok (.string s) w' := fun w' hb => by
  rw [← hs]
  exact (h.below ((p.trans (hb.mono p.size)).mono hB)).str c

set_option maxRecDepth 100000 in
set_option maxHeartbeats 4000000 in
theorem walk (a0 : Option Addr) (len0 cap0 : Nat) (z0 : List Int) (a1 : Option Addr) (len1 cap1 : Nat) (z1 : List Int) (a2 : Option Addr) (len2 cap2 : Nat) (z2 : List Int) (a3 : Int) (a4 : Int) (w : World) (w0 : IsRow .u8 w a0 len0 cap0 z0) (w1 : IsRow .u8 w a1 len1 cap1 z1) (w2 : IsRow .i64 w a2 len2 cap2 z2) (w3 : (Lit.int .i64 a3).wf = true) (w4 : (Lit.int .i64 a4).wf = true) :
    Calls Try.prog 3 #[.slice a0 len0 cap0, .slice a1 len1 cap1, .slice a2 len2 cap2, .int .i64 a3, .int .i64 a4] w fun e w' => e = .returned (.bool true) ∧ Below w.heap.size w w' := by
  obtain ⟨hlc, hcm, hO⟩ := oct_of_row w0
  obtain ⟨hlc1, hcm1, hV⟩ := oct_of_row w1
  obtain ⟨hlc2, hcm2, hN⟩ := nums_of_row w2
  clear w0 w1 w2
  generalize z0.take len0 = xs at hO
  generalize z1.take len1 = vs at hV
  generalize z2.take len2 = ls at hN
  have HO := Lib.hid hO
  have HV := Lib.hid hV
  have HN := Lib.hid hN
  clear hO hV hN
  by_cases hb_len0 : 1000 < len0
  · go_enter Try.func3, Try.ntmps3
    go_wp2_with fail
    refine (awake_any _).mono ?_
    rintro e w1 ⟨rfl, hb⟩
    go_wp2_with fail
    go_ret
    exact ⟨rfl, hb⟩
  by_cases hb_len1 : 1000 < len1
  · go_enter Try.func3, Try.ntmps3
    go_wp2_with fail
    refine (awake_any _).mono ?_
    rintro e w1 ⟨rfl, hb⟩
    go_wp2_with fail
    go_ret
    exact ⟨rfl, hb⟩
  by_cases hb_len2 : 100 < len2
  · go_enter Try.func3, Try.ntmps3
    go_wp2_with fail
    refine (awake_any _).mono ?_
    rintro e w1 ⟨rfl, hb⟩
    go_wp2_with fail
    go_ret
    exact ⟨rfl, hb⟩
  go_enter Try.func3, Try.ntmps3
  go_wp2_with fail
  refine (awake_any _).mono ?_
  rintro e w1 ⟨rfl, hb⟩
  have u1 := hb
  clear hb
  go_wp2_with fail
  refine (getNum_any a0 len0 cap0 w.heap.size xs a4 w1 (HO.out.below u1) hlc hcm).mono ?_
  rintro e w2 ⟨A1, n1, c1, rfl, _, _, O1, hw2⟩
  have u2 : Below w.heap.size w w2 := u1.trans (hw2.mono u1.size)
  have HO1 := Lib.hid O1
  clear O1
  go_wp2_with fail
  refine (rgetNum_any a0 len0 cap0 w.heap.size xs a4 w2 (HO.out.below u2) hlc hcm).mono ?_
  rintro e w3 ⟨A2, n2, c2, rfl, _, _, O2, hw3⟩
  have u3 : Below w.heap.size w w3 := u2.trans (hw3.mono u2.size)
  have HO2 := Lib.hid O2
  clear O2
  go_wp2_with fail
  refine (getBytes_any a0 len0 cap0 w.heap.size xs w3 (HO.out.below u3) hlc hcm u3.size).mono ?_
  rintro e w4 ⟨A3, n3, c3, A4, n4, c4, rfl, _, _, _, _, O3, O4, hw4⟩
  have u4 : Below w.heap.size w w4 := u3.trans (hw4.mono u3.size)
  have HO3 := Lib.hid O3
  have HO4 := Lib.hid O4
  clear O3 O4
  go_wp2_with fail
  refine (rgetBytes_any a0 len0 cap0 w.heap.size xs w4 (HO.out.below u4) hlc hcm u4.size).mono ?_
  rintro e w5 ⟨A5, n5, c5, A6, n6, c6, rfl, _, _, _, _, O5, O6, hw5⟩
  have u5 : Below w.heap.size w w5 := u4.trans (hw5.mono u4.size)
  have HO5 := Lib.hid O5
  have HO6 := Lib.hid O6
  clear O5 O6
  have s1 : (convert 22 9 (.slice A1 n1 c1)).run Try.prog w5 = .ok (.string (strOfNums (numR xs a4))) w5 := (HO1.out.below ((((Below.refl w.heap.size w2).trans (hw3.mono u2.size)).trans (hw4.mono u3.size)).trans (hw5.mono u4.size))).str _
  have s2 : (convert 22 9 (.slice A2 n2 c2)).run Try.prog w5 = .ok (.string (strOfNums (numR xs a4))) w5 := (HO2.out.below (((Below.refl w.heap.size w3).trans (hw4.mono u3.size)).trans (hw5.mono u4.size))).str _
  have s3 : (convert 22 9 (.slice A3 n3 c3)).run Try.prog w5 = .ok (.string (strOfNums (bytesP xs))) w5 := (HO3.out.below ((Below.refl w.heap.size w4).trans (hw5.mono u4.size))).str _
  have s4 : (convert 22 9 (.slice A4 n4 c4)).run Try.prog w5 = .ok (.string (strOfNums (bytesR xs))) w5 := (HO4.out.below ((Below.refl w.heap.size w4).trans (hw5.mono u4.size))).str _
  have s5 : (convert 22 9 (.slice A5 n5 c5)).run Try.prog w5 = .ok (.string (strOfNums (bytesP xs))) w5 := (HO5.out.below (Below.refl w.heap.size w5)).str _
  have s6 : (convert 22 9 (.slice A6 n6 c6)).run Try.prog w5 = .ok (.string (strOfNums (bytesR xs))) w5 := (HO6.out.below (Below.refl w.heap.size w5)).str _
  generalize strOfNums (numR xs a4) = t1 at s1 s2
  generalize strOfNums (bytesP xs) = t2 at s3 s5
  generalize strOfNums (bytesR xs) = t3 at s4 s6
  generalize numM xs a4 = nm
  generalize numE xs a4 = ne
  generalize hbe : bytesE xs = be
  clear hbe
  have q1 : (nm != nm) = false := by simp
  have q2 : (ne != ne) = false := by simp
  have q3 : (be != be) = false := by simp
  clear HO1 HO2 HO3 HO4 HO5 HO6
  go_wp2_with fail
  refine (getNums_any a0 len0 cap0 w.heap.size xs w5 (HO.out.below u5) hlc hcm u5.size).mono ?_
  rintro e w6 ⟨A7, n7, c7, A8, n8, c8, rfl, _, _, N7, O8, hw6⟩
  have u6 : Below w.heap.size w w6 := u5.trans (hw6.mono u5.size)
  have HN7 := Lib.hid N7
  have HO8 := Lib.hid O8
  clear N7 O8
  go_wp2_with fail
  refine (rgetNums_any a0 len0 cap0 w.heap.size xs w6 (HO.out.below u6) hlc hcm u6.size).mono ?_
  rintro e w7 ⟨A9, n9, c9, A10, n10, c10, rfl, _, _, N9, O10, hw7⟩
  have u7 : Below w.heap.size w w7 := u6.trans (hw7.mono u6.size)
  have HN9 := Lib.hid N9
  have HO10 := Lib.hid O10
  clear N9 O10
  go_wp2_with fail
  refine (getFlag_any a0 len0 cap0 w.heap.size xs w7 (HO.out.below u7) hlc hcm).mono ?_
  rintro e w8 ⟨A11, n11, c11, rfl, _, _, O11, hw8⟩
  have u8 : Below w.heap.size w w8 := u7.trans (hw8.mono u7.size)
  have HO11 := Lib.hid O11
  clear O11
  go_wp2_with fail
  refine (rgetFlag_any a0 len0 cap0 w.heap.size xs w8 (HO.out.below u8) hlc hcm).mono ?_
  rintro e w9 ⟨A12, n12, c12, rfl, _, _, O12, hw9⟩
  have u9 : Below w.heap.size w w9 := u8.trans (hw9.mono u8.size)
  have HO12 := Lib.hid O12
  clear O12
  obtain rfl : n7 = n9 := by rw [← HN7.out.1, ← HN9.out.1]
  have v6 : Below w6.heap.size w6 w9 := (hw7.trans (hw8.mono hw7.size)).trans (hw9.mono (Nat.le_trans hw7.size hw8.size))
  have v7 : Below w7.heap.size w7 w9 := hw8.trans (hw9.mono hw8.size)
  have M7 := Lib.hid (HN7.out.below v6)
  have M9 := Lib.hid (HN9.out.below v7)
  have hn9 : n7 ≤ maxLen := by
    rw [← HN7.out.1, numsL]
    have h1 := bytesP_le xs HO.out.2.1
    split
    · rw [fours_length]; unfold maxLen; omega
    · exact Nat.zero_le _
  have P8 := Lib.hid (HO8.out.below (v6.mono u6.size))
  have P10 := Lib.hid (HO10.out.below (v7.mono u7.size))
  have P11 := Lib.hid (HO11.out.below (hw9.mono u8.size))
  have P12 := Lib.hid (HO12.out.below (Below.refl w.heap.size w9))
  generalize numsR xs = rs at P8 P10
  generalize flagR xs = gs at P11 P12
  generalize numsE xs = nse
  generalize flagB xs = fl
  generalize flagE xs = fe
  generalize numsL xs = nl at M7 M9
  have q4 : (nse != nse) = false := by simp
  have q5 : (fl != fl) = false := by simp
  have q6 : (fe != fe) = false := by simp
  clear HN7 HN9 HO8 HO10 HO11 HO12 hw2 hw3 hw4 hw5 hw6 hw7 hw8 hw9 v6 v7
  go_wp2_with fail
  refine (ints_same A7 A9 n7 c7 c9 _ _ nl w9 M7.out M9.out hn9).mono ?_
  rintro e w10 ⟨rfl, d, rfl⟩
  have u10 : Below w.heap.size w (w9.drewN d) := below_drewN u9 d
  have s8 : (convert 22 9 (.slice A8 n8 c8)).run Try.prog (w9.drewN d) = .ok (.string (strOfNums rs)) (w9.drewN d) := (P8.out.drewN d).str _
  have s10 : (convert 22 9 (.slice A10 n10 c10)).run Try.prog (w9.drewN d) = .ok (.string (strOfNums rs)) (w9.drewN d) := (P10.out.drewN d).str _
  have s11 : (convert 22 9 (.slice A11 n11 c11)).run Try.prog (w9.drewN d) = .ok (.string (strOfNums gs)) (w9.drewN d) := (P11.out.drewN d).str _
  have s12 : (convert 22 9 (.slice A12 n12 c12)).run Try.prog (w9.drewN d) = .ok (.string (strOfNums gs)) (w9.drewN d) := (P12.out.drewN d).str _
  generalize strOfNums rs = t4 at s8 s10
  generalize strOfNums gs = t5 at s11 s12
  clear P8 P10 P11 P12 M7 M9
  generalize w9.drewN d = wx at *
  obtain ⟨b1, eb1⟩ : ∃ s, strOfNums (xs ++ numOct a3 (widthK a4)) = s := ⟨_, rfl⟩
  obtain ⟨b2, eb2⟩ : ∃ s, strOfNums (xs ++ bytesOct vs) = s := ⟨_, rfl⟩
  obtain ⟨b3, eb3⟩ : ∃ s, strOfNums (xs ++ bytesOct (numsOct ls)) = s := ⟨_, rfl⟩
  obtain ⟨z, hz⟩ : ∃ z, bits .and .i64 a3 1 = z := ⟨_, rfl⟩
  obtain ⟨fb, hfb⟩ : ∃ fb, (z == 1) = fb := ⟨_, rfl⟩
  obtain ⟨b4, eb4⟩ : ∃ s, strOfNums (xs ++ flagOct fb) = s := ⟨_, rfl⟩
  have Eb1 := Lib.hid eb1
  have Eb2 := Lib.hid eb2
  have Eb3 := Lib.hid eb3
  have Eb4 := Lib.hid eb4
  clear eb1 eb2 eb3 eb4
  go_wp2_with fail
  refine seq_start (by kernel_rfl) ?_
  refine seq_move 0 168 (.bool true) (.tmp 11) (by kernel_rfl) (by kernel_rfl) (by kernel_rfl) (by kernel_rfl) (by kernel_rfl) (fun _ _ _ h => h) (by kernel_rfl) ?_
  refine seq_move 1 169 (.bool true) (.tmp 168) (by kernel_rfl) (by kernel_rfl) (by kernel_rfl) (by kernel_rfl) (by kernel_rfl) (fun _ _ _ h => h) (by kernel_rfl) ?_
  refine seq_move 2 170 (.slice a0 len0 cap0) (.tmp 0) (by kernel_rfl) (by kernel_rfl) (by kernel_rfl) (by kernel_rfl) (by kernel_rfl) (fun _ _ _ h => h) (by kernel_rfl) ?_
  refine seq_move 3 171 (.int .i64 a3) (.tmp 3) (by kernel_rfl) (by kernel_rfl) (by kernel_rfl) (by kernel_rfl) (by kernel_rfl) (fun _ _ _ h => h) (by kernel_rfl) ?_
  refine seq_move 4 172 (.int .i64 a4) (.tmp 4) (by kernel_rfl) (by kernel_rfl) (by kernel_rfl) (by kernel_rfl) (by kernel_rfl) (fun _ _ _ h => h) (by kernel_rfl) ?_
  refine seq_move 7 175 (.slice a0 len0 cap0) (.tmp 0) (by kernel_rfl) (by kernel_rfl) (by kernel_rfl) (by kernel_rfl) (by kernel_rfl) (fun _ _ _ h => h) (by kernel_rfl) ?_
  refine seq_move 8 176 (.int .i64 a3) (.tmp 3) (by kernel_rfl) (by kernel_rfl) (by kernel_rfl) (by kernel_rfl) (by kernel_rfl) (fun _ _ _ h => h) (by kernel_rfl) ?_
  refine seq_move 9 177 (.int .i64 a4) (.tmp 4) (by kernel_rfl) (by kernel_rfl) (by kernel_rfl) (by kernel_rfl) (by kernel_rfl) (fun _ _ _ h => h) (by kernel_rfl) ?_
  refine seq_call 5 173 19 #[.tmp 170, .tmp 171, .tmp 172] #[22, 3, 3] #[.slice a0 len0 cap0, .int .i64 a3, .int .i64 a4] (by kernel_rfl) (by kernel_rfl) (by kernel_rfl) (by kernel_rfl) (by kernel_rfl) ?_
  refine (putNum_any a0 len0 cap0 w.heap.size xs a3 a4 wx.drew (HO.out.below (u10.drew)) (u10.drew).size (by omega)).mono ?_
  rintro e x1 ⟨B1, m1, d1, rfl, _, _, hO1, hb1⟩
  refine ⟨_, rfl, hb1, ?_⟩
  have y1 : Below w.heap.size w x1 := (u10.drew).trans (hb1.mono (u10.drew).size)
  have e1 := Lib.hid (conv_keep (c := d1) hO1 (Nat.le_refl _) (Below.refl _ _) Eb1.out)
  clear hO1
  refine seq_convert 6 174 (.string b1) (.slice B1 m1 d1) 22 9 (.tmp 173) (by kernel_rfl) (by kernel_rfl) (by kernel_rfl) (by kernel_rfl) (by kernel_rfl) (fun _ _ _ h => h) (by kernel_rfl) e1.out ?_
  refine seq_call 10 178 20 #[.tmp 175, .tmp 176, .tmp 177] #[22, 3, 3] #[.slice a0 len0 cap0, .int .i64 a3, .int .i64 a4] (by kernel_rfl) (by kernel_rfl) (by kernel_rfl) (by kernel_rfl) (by kernel_rfl) ?_
  refine (rputNum_any a0 len0 cap0 w.heap.size xs a3 a4 x1 (HO.out.below (y1)) (y1).size (by omega)).mono ?_
  rintro e x2 ⟨B2, m2, d2, rfl, _, _, hO2, hb2⟩
  refine ⟨_, rfl, hb2, ?_⟩
  have y2 : Below w.heap.size w x2 := (y1).trans (hb2.mono (y1).size)
  have e2 := Lib.hid (conv_keep (c := d2) hO2 (Nat.le_refl _) (Below.refl _ _) Eb1.out)
  clear hO2
  refine seq_convert 11 179 (.string b1) (.slice B2 m2 d2) 22 9 (.tmp 178) (by kernel_rfl) (by kernel_rfl) (by kernel_rfl) (by kernel_rfl) (by kernel_rfl) (fun _ _ _ h => h) (by kernel_rfl) e2.out ?_
  refine seq_bin 12 180 (.bool true) (.string b1) (.string b1) .eql 9 9 (.tmp 174) (.tmp 179) (by kernel_rfl) (by kernel_rfl) (by kernel_rfl) (by kernel_rfl) (by kernel_rfl) (fun _ _ _ h => h) (by kernel_rfl) (by kernel_rfl) ?_ ?_
  · intro w'; go_simp
  refine seq_pick 13 181 (.bool true) (.tmp 169) (.tmp 180) (.const (.bool false)) true (by kernel_rfl) (by kernel_rfl) (by kernel_rfl) (by kernel_rfl) (by kernel_rfl) (fun _ _ _ h => h) (by kernel_rfl) (by kernel_rfl) ?_
  refine seq_move 14 182 (.bool true) (.tmp 181) (by kernel_rfl) (by kernel_rfl) (by kernel_rfl) (by kernel_rfl) (by kernel_rfl) (fun _ _ _ h => h) (by kernel_rfl) ?_
  refine seq_move 15 183 (.slice a0 len0 cap0) (.tmp 0) (by kernel_rfl) (by kernel_rfl) (by kernel_rfl) (by kernel_rfl) (by kernel_rfl) (fun _ _ _ h => h) (by kernel_rfl) ?_
  refine seq_move 16 184 (.slice a1 len1 cap1) (.tmp 1) (by kernel_rfl) (by kernel_rfl) (by kernel_rfl) (by kernel_rfl) (by kernel_rfl) (fun _ _ _ h => h) (by kernel_rfl) ?_
  refine seq_move 19 187 (.slice a0 len0 cap0) (.tmp 0) (by kernel_rfl) (by kernel_rfl) (by kernel_rfl) (by kernel_rfl) (by kernel_rfl) (fun _ _ _ h => h) (by kernel_rfl) ?_
  refine seq_move 20 188 (.slice a1 len1 cap1) (.tmp 1) (by kernel_rfl) (by kernel_rfl) (by kernel_rfl) (by kernel_rfl) (by kernel_rfl) (fun _ _ _ h => h) (by kernel_rfl) ?_
  refine seq_call 17 185 21 #[.tmp 183, .tmp 184] #[22, 22] #[.slice a0 len0 cap0, .slice a1 len1 cap1] (by kernel_rfl) (by kernel_rfl) (by kernel_rfl) (by kernel_rfl) (by kernel_rfl) ?_
  refine (putBytes_any a0 a1 len0 cap0 len1 cap1 w.heap.size xs vs x2 (HO.out.below (y2)) (HV.out.below (y2)) (y2).size hlc hcm (by omega)).mono ?_
  rintro e x3 ⟨B3, m3, d3, rfl, _, _, hO3, hb3⟩
  refine ⟨_, rfl, hb3, ?_⟩
  have y3 : Below w.heap.size w x3 := (y2).trans (hb3.mono (y2).size)
  have e3 := Lib.hid (conv_keep (c := d3) hO3 (Nat.le_refl _) (Below.refl _ _) Eb2.out)
  clear hO3
  refine seq_convert 18 186 (.string b2) (.slice B3 m3 d3) 22 9 (.tmp 185) (by kernel_rfl) (by kernel_rfl) (by kernel_rfl) (by kernel_rfl) (by kernel_rfl) (fun _ _ _ h => h) (by kernel_rfl) e3.out ?_
  refine seq_call 21 189 22 #[.tmp 187, .tmp 188] #[22, 22] #[.slice a0 len0 cap0, .slice a1 len1 cap1] (by kernel_rfl) (by kernel_rfl) (by kernel_rfl) (by kernel_rfl) (by kernel_rfl) ?_
  refine (rputBytes_any a0 a1 len0 cap0 len1 cap1 w.heap.size xs vs x3 (HO.out.below (y3)) (HV.out.below (y3)) (y3).size (by omega) (by omega)).mono ?_
  rintro e x4 ⟨B4, m4, d4, rfl, _, _, hO4, hb4⟩
  refine ⟨_, rfl, hb4, ?_⟩
  have y4 : Below w.heap.size w x4 := (y3).trans (hb4.mono (y3).size)
  have e4 := Lib.hid (conv_keep (c := d4) hO4 (Nat.le_refl _) (Below.refl _ _) Eb2.out)
  clear hO4
  refine seq_convert 22 190 (.string b2) (.slice B4 m4 d4) 22 9 (.tmp 189) (by kernel_rfl) (by kernel_rfl) (by kernel_rfl) (by kernel_rfl) (by kernel_rfl) (fun _ _ _ h => h) (by kernel_rfl) e4.out ?_
  refine seq_bin 23 191 (.bool true) (.string b2) (.string b2) .eql 9 9 (.tmp 186) (.tmp 190) (by kernel_rfl) (by kernel_rfl) (by kernel_rfl) (by kernel_rfl) (by kernel_rfl) (fun _ _ _ h => h) (by kernel_rfl) (by kernel_rfl) ?_ ?_
  · intro w'; go_simp
  refine seq_pick 24 192 (.bool true) (.tmp 182) (.tmp 191) (.const (.bool false)) true (by kernel_rfl) (by kernel_rfl) (by kernel_rfl) (by kernel_rfl) (by kernel_rfl) (fun _ _ _ h => h) (by kernel_rfl) (by kernel_rfl) ?_
  refine seq_move 25 193 (.bool true) (.tmp 192) (by kernel_rfl) (by kernel_rfl) (by kernel_rfl) (by kernel_rfl) (by kernel_rfl) (fun _ _ _ h => h) (by kernel_rfl) ?_
  refine seq_move 26 194 (.slice a0 len0 cap0) (.tmp 0) (by kernel_rfl) (by kernel_rfl) (by kernel_rfl) (by kernel_rfl) (by kernel_rfl) (fun _ _ _ h => h) (by kernel_rfl) ?_
  refine seq_move 27 195 (.slice a2 len2 cap2) (.tmp 2) (by kernel_rfl) (by kernel_rfl) (by kernel_rfl) (by kernel_rfl) (by kernel_rfl) (fun _ _ _ h => h) (by kernel_rfl) ?_
  refine seq_move 30 198 (.slice a0 len0 cap0) (.tmp 0) (by kernel_rfl) (by kernel_rfl) (by kernel_rfl) (by kernel_rfl) (by kernel_rfl) (fun _ _ _ h => h) (by kernel_rfl) ?_
  refine seq_move 31 199 (.slice a2 len2 cap2) (.tmp 2) (by kernel_rfl) (by kernel_rfl) (by kernel_rfl) (by kernel_rfl) (by kernel_rfl) (fun _ _ _ h => h) (by kernel_rfl) ?_
  refine seq_call 28 196 23 #[.tmp 194, .tmp 195] #[22, 23] #[.slice a0 len0 cap0, .slice a2 len2 cap2] (by kernel_rfl) (by kernel_rfl) (by kernel_rfl) (by kernel_rfl) (by kernel_rfl) ?_
  refine (putNums_any a0 a2 len0 cap0 len2 cap2 w.heap.size xs ls x4 (HO.out.below (y4)) (HN.out.below (y4)) (y4).size hlc hcm (by omega)).mono ?_
  rintro e x5 ⟨B5, m5, d5, rfl, _, _, hO5, hb5⟩
  refine ⟨_, rfl, hb5, ?_⟩
  have y5 : Below w.heap.size w x5 := (y4).trans (hb5.mono (y4).size)
  have e5 := Lib.hid (conv_keep (c := d5) hO5 (Nat.le_refl _) (Below.refl _ _) Eb3.out)
  clear hO5
  refine seq_convert 29 197 (.string b3) (.slice B5 m5 d5) 22 9 (.tmp 196) (by kernel_rfl) (by kernel_rfl) (by kernel_rfl) (by kernel_rfl) (by kernel_rfl) (fun _ _ _ h => h) (by kernel_rfl) e5.out ?_
  refine seq_call 32 200 24 #[.tmp 198, .tmp 199] #[22, 23] #[.slice a0 len0 cap0, .slice a2 len2 cap2] (by kernel_rfl) (by kernel_rfl) (by kernel_rfl) (by kernel_rfl) (by kernel_rfl) ?_
  refine (rputNums_any a0 a2 len0 cap0 len2 cap2 w.heap.size xs ls x5 (HO.out.below (y5)) (HN.out.below (y5)) (y5).size (by omega) (by omega)).mono ?_
  rintro e x6 ⟨B6, m6, d6, rfl, _, _, hO6, hb6⟩
  refine ⟨_, rfl, hb6, ?_⟩
  have y6 : Below w.heap.size w x6 := (y5).trans (hb6.mono (y5).size)
  have e6 := Lib.hid (conv_keep (c := d6) hO6 (Nat.le_refl _) (Below.refl _ _) Eb3.out)
  clear hO6
  refine seq_convert 33 201 (.string b3) (.slice B6 m6 d6) 22 9 (.tmp 200) (by kernel_rfl) (by kernel_rfl) (by kernel_rfl) (by kernel_rfl) (by kernel_rfl) (fun _ _ _ h => h) (by kernel_rfl) e6.out ?_
  refine seq_bin 34 202 (.bool true) (.string b3) (.string b3) .eql 9 9 (.tmp 197) (.tmp 201) (by kernel_rfl) (by kernel_rfl) (by kernel_rfl) (by kernel_rfl) (by kernel_rfl) (fun _ _ _ h => h) (by kernel_rfl) (by kernel_rfl) ?_ ?_
  · intro w'; go_simp
  refine seq_pick 35 203 (.bool true) (.tmp 193) (.tmp 202) (.const (.bool false)) true (by kernel_rfl) (by kernel_rfl) (by kernel_rfl) (by kernel_rfl) (by kernel_rfl) (fun _ _ _ h => h) (by kernel_rfl) (by kernel_rfl) ?_
  refine seq_move 36 204 (.bool true) (.tmp 203) (by kernel_rfl) (by kernel_rfl) (by kernel_rfl) (by kernel_rfl) (by kernel_rfl) (fun _ _ _ h => h) (by kernel_rfl) ?_
  refine seq_move 37 205 (.slice a0 len0 cap0) (.tmp 0) (by kernel_rfl) (by kernel_rfl) (by kernel_rfl) (by kernel_rfl) (by kernel_rfl) (fun _ _ _ h => h) (by kernel_rfl) ?_
  refine seq_move 38 206 (.int .i64 a3) (.tmp 3) (by kernel_rfl) (by kernel_rfl) (by kernel_rfl) (by kernel_rfl) (by kernel_rfl) (fun _ _ _ h => h) (by kernel_rfl) ?_
  refine seq_bin 39 207 (.int .i64 z) (.int .i64 a3) (.int .i64 1) .and 3 3 (.tmp 206) (.const (.int .i64 1)) (by kernel_rfl) (by kernel_rfl) (by kernel_rfl) (by kernel_rfl) (by kernel_rfl) (fun _ _ _ h => h) (by kernel_rfl) (by kernel_rfl) ?_ ?_
  · intro w'; go_simp
  refine seq_bin 40 208 (.bool fb) (.int .i64 z) (.int .i64 1) .eql 3 3 (.tmp 207) (.const (.int .i64 1)) (by kernel_rfl) (by kernel_rfl) (by kernel_rfl) (by kernel_rfl) (by kernel_rfl) (fun _ _ _ h => h) (by kernel_rfl) (by kernel_rfl) ?_ ?_
  · intro w'; go_simp
  refine seq_move 43 211 (.slice a0 len0 cap0) (.tmp 0) (by kernel_rfl) (by kernel_rfl) (by kernel_rfl) (by kernel_rfl) (by kernel_rfl) (fun _ _ _ h => h) (by kernel_rfl) ?_
  refine seq_move 44 212 (.int .i64 a3) (.tmp 3) (by kernel_rfl) (by kernel_rfl) (by kernel_rfl) (by kernel_rfl) (by kernel_rfl) (fun _ _ _ h => h) (by kernel_rfl) ?_
  refine seq_bin 45 213 (.int .i64 z) (.int .i64 a3) (.int .i64 1) .and 3 3 (.tmp 212) (.const (.int .i64 1)) (by kernel_rfl) (by kernel_rfl) (by kernel_rfl) (by kernel_rfl) (by kernel_rfl) (fun _ _ _ h => h) (by kernel_rfl) (by kernel_rfl) ?_ ?_
  · intro w'; go_simp
  refine seq_bin 46 214 (.bool fb) (.int .i64 z) (.int .i64 1) .eql 3 3 (.tmp 213) (.const (.int .i64 1)) (by kernel_rfl) (by kernel_rfl) (by kernel_rfl) (by kernel_rfl) (by kernel_rfl) (fun _ _ _ h => h) (by kernel_rfl) (by kernel_rfl) ?_ ?_
  · intro w'; go_simp
  refine seq_call 41 209 25 #[.tmp 205, .tmp 208] #[22, 4] #[.slice a0 len0 cap0, .bool fb] (by kernel_rfl) (by kernel_rfl) (by kernel_rfl) (by kernel_rfl) (by kernel_rfl) ?_
  refine (putFlag_any a0 len0 cap0 w.heap.size xs fb x6 (HO.out.below (y6)) (y6).size (by omega)).mono ?_
  rintro e x7 ⟨B7, m7, d7, rfl, _, _, hO7, hb7⟩
  refine ⟨_, rfl, hb7, ?_⟩
  have y7 : Below w.heap.size w x7 := (y6).trans (hb7.mono (y6).size)
  have e7 := Lib.hid (conv_keep (c := d7) hO7 (Nat.le_refl _) (Below.refl _ _) Eb4.out)
  clear hO7
  refine seq_convert 42 210 (.string b4) (.slice B7 m7 d7) 22 9 (.tmp 209) (by kernel_rfl) (by kernel_rfl) (by kernel_rfl) (by kernel_rfl) (by kernel_rfl) (fun _ _ _ h => h) (by kernel_rfl) e7.out ?_
  refine seq_call 47 215 26 #[.tmp 211, .tmp 214] #[22, 4] #[.slice a0 len0 cap0, .bool fb] (by kernel_rfl) (by kernel_rfl) (by kernel_rfl) (by kernel_rfl) (by kernel_rfl) ?_
  refine (rputFlag_any a0 len0 cap0 w.heap.size xs fb x7 (HO.out.below (y7)) (y7).size (by omega)).mono ?_
  rintro e x8 ⟨B8, m8, d8, rfl, _, _, hO8, hb8⟩
  refine ⟨_, rfl, hb8, ?_⟩
  have y8 : Below w.heap.size w x8 := (y7).trans (hb8.mono (y7).size)
  have e8 := Lib.hid (conv_keep (c := d8) hO8 (Nat.le_refl _) (Below.refl _ _) Eb4.out)
  clear hO8
  refine seq_convert 48 216 (.string b4) (.slice B8 m8 d8) 22 9 (.tmp 215) (by kernel_rfl) (by kernel_rfl) (by kernel_rfl) (by kernel_rfl) (by kernel_rfl) (fun _ _ _ h => h) (by kernel_rfl) e8.out ?_
  refine seq_bin 49 217 (.bool true) (.string b4) (.string b4) .eql 9 9 (.tmp 210) (.tmp 216) (by kernel_rfl) (by kernel_rfl) (by kernel_rfl) (by kernel_rfl) (by kernel_rfl) (fun _ _ _ h => h) (by kernel_rfl) (by kernel_rfl) ?_ ?_
  · intro w'; go_simp
  refine seq_pick 50 218 (.bool true) (.tmp 204) (.tmp 217) (.const (.bool false)) true (by kernel_rfl) (by kernel_rfl) (by kernel_rfl) (by kernel_rfl) (by kernel_rfl) (fun _ _ _ h => h) (by kernel_rfl) (by kernel_rfl) ?_
  refine seq_assign 51 10 (.bool true) (.tmp 218) (by kernel_rfl) (by kernel_rfl) (by kernel_rfl) (by kernel_rfl) (by kernel_rfl) (fun _ _ _ h => h) (by kernel_rfl) ?_
  refine seq_done (by kernel_rfl) (by simp only [put_lit, List.set_cons_succ, List.set_cons_zero]; rfl) ?_ _
  go_wp2
  go_ret
  exact ⟨by kernel_rfl, y8⟩

set_option maxRecDepth 100000 in
theorem lifted (os : Os) (started : os.Started) (H : Type) (enc : TypeId × Value → H) :
    ReturnsInHanded {} Try.checked os 3 .any (Rows.wireIsSpec.pre6 enc Try.prog Try.f3 Rows.wireIsRow.domain false) (Rows.wireIsSpec.post enc Try.prog Try.f3 false true false false) := by
  refine returnsInHanded_of_change (C := Try.checked) own started (by kernel_rfl) Try.func3
    (ChangeSpec.witness6 (enc := enc) (C := Try.checked) false ⟨#[], #[.slice none 0 0, .slice none 0 0, .slice none 0 0, .int .i64 0, .int .i64 0], []⟩ 8 (by kernel_rfl) (by kernel_rfl) (by kernel_rfl) (by kernel_rfl)) ?_
  intro W base args ds gs before hval0 hW hcnd _
  have hval : ∀ (j : Nat) t v, Try.f3.params[j]? = some t → args[j]? = some v → Value.okWide Try.prog W .any base t v := hval0
  have hW' := hW
  obtain ⟨p, q, hA0, hV, rfl, hfz, hnd⟩ := hW
  have hA : DataW.TrodAll enc Try.prog W 0 (fun _ => true) true Try.f3.params.toList args.toList ds p := hA0
  rw [Try.params3] at hA hval
  obtain ⟨v0, vs0, d0, ds0, p0, q0, hargs, rfl, rfl, h0, r0⟩ := trodAll_cons hA
  obtain ⟨v1, vs1, d1, ds1, p1, q1, rfl, rfl, rfl, h1, r1⟩ := trodAll_cons r0
  obtain ⟨v2, vs2, d2, ds2, p2, q2, rfl, rfl, rfl, h2, r2⟩ := trodAll_cons r1
  obtain ⟨v3, vs3, d3, ds3, p3, q3, rfl, rfl, rfl, h3, r3⟩ := trodAll_cons r2
  obtain ⟨v4, vs4, d4, ds4, p4, q4, rfl, rfl, rfl, h4, r4⟩ := trodAll_cons r3
  obtain ⟨rfl, rfl, rfl⟩ := trodAll_nil r4
  obtain rfl : args = #[v0, v1, v2, v3, v4] := by cases args; simp_all
  obtain ⟨rfl, rfl⟩ := trodVars_none hV
  obtain ⟨a0, len0, cap0, rfl⟩ := okWide_slice Try.underlying22 (hval 0 22 v0 rfl rfl)
  have k0 := h0
  have lt0 : ∀ x ∈ p0, x.block < W.heap.size := by obtain ⟨m, hm⟩ := k0; exact DataW.trod_lt m _ _ _ hm
  obtain ⟨z0, w0⟩ : ∃ zs, IsRow .u8 W a0 len0 cap0 zs := by
    obtain ⟨fuel, hf⟩ := h0
    rcases open_ints Try.underlying22 Try.underlying5 (by kernel_rfl) hf with ⟨hcs, _⟩ | ⟨x, l, c, zs, hcs, _, hl, hm, hz, _, hcell, hwz⟩
    · simp [Value.cells] at hcs
      obtain ⟨rfl, rfl, rfl⟩ := hcs
      exact ⟨[], .inl ⟨rfl, rfl, rfl, rfl⟩⟩
    · simp [Value.cells] at hcs
      obtain ⟨rfl, rfl, rfl⟩ := hcs
      exact ⟨zs, .inr ⟨_, rfl, hl, hm, by simpa using hz, hcell, hwz⟩⟩
  obtain ⟨a1, len1, cap1, rfl⟩ := okWide_slice Try.underlying22 (hval 1 22 v1 rfl rfl)
  have k1 := h1
  have lt1 : ∀ x ∈ p1, x.block < W.heap.size := by obtain ⟨m, hm⟩ := k1; exact DataW.trod_lt m _ _ _ hm
  obtain ⟨z1, w1⟩ : ∃ zs, IsRow .u8 W a1 len1 cap1 zs := by
    obtain ⟨fuel, hf⟩ := h1
    rcases open_ints Try.underlying22 Try.underlying5 (by kernel_rfl) hf with ⟨hcs, _⟩ | ⟨x, l, c, zs, hcs, _, hl, hm, hz, _, hcell, hwz⟩
    · simp [Value.cells] at hcs
      obtain ⟨rfl, rfl, rfl⟩ := hcs
      exact ⟨[], .inl ⟨rfl, rfl, rfl, rfl⟩⟩
    · simp [Value.cells] at hcs
      obtain ⟨rfl, rfl, rfl⟩ := hcs
      exact ⟨zs, .inr ⟨_, rfl, hl, hm, by simpa using hz, hcell, hwz⟩⟩
  obtain ⟨a2, len2, cap2, rfl⟩ := okWide_slice Try.underlying23 (hval 2 23 v2 rfl rfl)
  have k2 := h2
  have lt2 : ∀ x ∈ p2, x.block < W.heap.size := by obtain ⟨m, hm⟩ := k2; exact DataW.trod_lt m _ _ _ hm
  obtain ⟨z2, w2⟩ : ∃ zs, IsRow .i64 W a2 len2 cap2 zs := by
    obtain ⟨fuel, hf⟩ := h2
    rcases open_ints Try.underlying23 Try.underlying3 (by kernel_rfl) hf with ⟨hcs, _⟩ | ⟨x, l, c, zs, hcs, _, hl, hm, hz, _, hcell, hwz⟩
    · simp [Value.cells] at hcs
      obtain ⟨rfl, rfl, rfl⟩ := hcs
      exact ⟨[], .inl ⟨rfl, rfl, rfl, rfl⟩⟩
    · simp [Value.cells] at hcs
      obtain ⟨rfl, rfl, rfl⟩ := hcs
      exact ⟨zs, .inr ⟨_, rfl, hl, hm, by simpa using hz, hcell, hwz⟩⟩
  obtain ⟨a3, rfl, rfl, rfl, w3⟩ := open_int Try.underlying3 (hval 3 3 v3 rfl rfl) h3
  obtain ⟨a4, rfl, rfl, rfl, w4⟩ := open_int Try.underlying3 (hval 4 3 v4 rfl rfl) h4
  clear hA0 hval0
  refine (walk a0 len0 cap0 z0 a1 len1 cap1 z1 a2 len2 cap2 z2 a3 a4 W w0 w1 w2 w3 w4).mono fun e W' ⟨he, bel⟩ => ?_
  subst he
  exact ⟨_, rfl, _, _, _, [], _, [], hW', trodAll_mk1 (shut_bool Try.underlying4 _), (trodAll_cons_mk (Below.trod laidOut (by kernel_rfl) (of_decide_eq_true (by kernel_rfl)) k0 bel lt0) (trodAll_cons_mk (Below.trod laidOut (by kernel_rfl) (of_decide_eq_true (by kernel_rfl)) k1 bel lt1) (trodAll_cons_mk (Below.trod laidOut (by kernel_rfl) (of_decide_eq_true (by kernel_rfl)) k2 bel lt2) (trodAll_cons_mk (shut_int Try.underlying3 w3) (trodAll_cons_mk (shut_int Try.underlying3 w4) trodAll_mk0))))), rfl, bel.frame _, fun h => by cases h⟩

theorem over : Rows.wireIsRow.holds Try.pinned (OpenSpec.ofChange Rows.wireIsSpec) :=
  OpenClaim.holds_of_wide 3 Try.f3 rfl rfl rfl rfl rfl rfl rfl ⟨rfl, rfl, rfl, rfl, rfl⟩ rfl rfl rfl rfl rfl (by kernel_rfl) Try.func3 (by kernel_rfl)
    (of_decide_eq_true (by kernel_rfl)) (by unfold Func.isWrapper; first | (rw [if_pos (by decide +kernel)]; kernel_rfl) | (rw [if_neg (by decide +kernel)]; exact ⟨rfl, rfl⟩))
    (fun os started H enc _ => lifted os started H enc)

end wireIs

theorem wireIs_holds : Rows.WireIsSaid := wireIs.over
end Go.Proofs.Ytonlkmepdehdgaa
