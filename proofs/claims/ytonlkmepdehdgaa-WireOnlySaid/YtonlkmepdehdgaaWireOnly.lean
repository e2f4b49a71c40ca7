/-
  For every slice of octets the statement WireOnly returns true: what is got as octets, as numbers or as a flag is put as it was, and beside an error nothing is told; no condition.
-/
import Derived.Test.YtonlkmepdehdgaaRows
import Derived.Test.YtonlkmepdehdgaaWiBits
import Derived.Test.YtonlkmepdehdgaaSeq
import Derived.WalkKit
import Derived.ProofKit
import Derived.OpenShut
import Derived.ShutString
import Derived.ChangeOld
import Derived.Below
namespace Go.Proofs.Ytonlkmepdehdgaa
namespace wireOnly
open Go.ChangeShapes Go.WideShapes Go.ChangeAt Go.RowKit
open Go.ChangeMaps (open_string shut_string)
set_option linter.unusedVariables false

theorem own : ownKnob Try.prog.godebug = none := by kernel_rfl
theorem laidOut : laidOutB Try.prog = true := by kernel_rfl


/-- A slice of octets that was there reads as the same string in every later world. -/
theorem conv_keep {w4 W : World} {B n c : Nat} {A : Option Addr} {xs : List Int} {s : ByteArray} (h : Oct w4 B A n xs) (hB : B ≤ w4.heap.size) (p : Below w4.heap.size w4 W) (hs : strOfNums xs = s) :
    ∀ w', Below W.heap.size W w' → (convert 22 9 (.slice A n c)).run Try.prog w' = .ok (.string s) w' := fun w' hb => by
  rw [← hs]
  exact (h.below ((p.trans (hb.mono p.size)).mono hB)).str c

theorem app_small {ys rs xs : List Int} {sm sr : ByteArray} (em : strOfNums ys = sm) (er : strOfNums rs = sr) (h : ys ++ rs = xs) (hl : xs.length ≤ 1000) : ¬ 9223372036854775807 < sm.size + sr.size := by
  rw [← em, ← er, strOfNums_size, strOfNums_size]
  have h2 := congrArg List.length h
  rw [List.length_append] at h2
  omega

theorem str_app (xs ys : List Int) : strOfNums xs ++ strOfNums ys = strOfNums (xs ++ ys) := by
  apply ByteArray.ext
  simp [strOfNums, ByteArray.data_append]

theorem got_facts (xs : List Int) (hx : ∀ x ∈ xs, 0 ≤ x ∧ x ≤ 255) :
    (bytesE xs = 0 → bytesOct (bytesP xs) ++ bytesR xs = xs) ∧ (bytesE xs ≠ 0 → bytesP xs = [] ∧ bytesR xs = []) ∧
    (numsE xs = 0 → bytesE xs = 0 ∧ bytesOct (numsOct (numsL xs)) ++ numsR xs = xs) ∧ (numsE xs ≠ 0 → numsL xs = [] ∧ numsR xs = []) ∧
    (flagE xs = 0 → flagOct (flagB xs) ++ flagR xs = xs) ∧ (flagE xs ≠ 0 → flagB xs = false ∧ flagR xs = []) := by
  refine ⟨bytes_got xs hx, fun h => ⟨by unfold bytesP; rw [if_neg h], by unfold bytesR; rw [if_neg h]⟩, nums_got xs hx, fun h => ⟨by unfold numsL; rw [if_neg h], by unfold numsR; rw [if_neg h]⟩, flag_got xs hx, fun h => ⟨?_, by unfold flagR; rw [if_neg h]⟩⟩
  unfold flagE at h
  unfold flagB
  match xs, h with
  | [], _ => rfl
  | x :: l, h =>
    simp at h ⊢
    omega

set_option maxRecDepth 100000 in
set_option maxHeartbeats 4000000 in
theorem walk (a0 : Option Addr) (len0 cap0 : Nat) (z0 : List Int) (w : World) (w0 : IsRow .u8 w a0 len0 cap0 z0) :
    Calls Try.prog 6 #[.slice a0 len0 cap0] w fun e w' => e = .returned (.bool true) ∧ Below w.heap.size w w' := by
  obtain ⟨hlc, hcm, hO⟩ := oct_of_row w0
  clear w0
  generalize z0.take len0 = xs at hO
  have l0 : Hid (xs.length = len0) := hO.1
  obtain ⟨f1, f2, f3, f4, f5, f6⟩ := got_facts xs hO.2.1
  have HO := Lib.hid hO
  clear hO
  by_cases hbig : 1000 < len0
  · go_enter Try.func6, Try.ntmps6
    go_wp2_with fail
    refine (awake_any _).mono ?_
    rintro e w1 ⟨rfl, hb⟩
    go_wp2_with fail
    go_ret
    exact ⟨rfl, hb⟩
  have F1 := Lib.hid f1
  have F2 := Lib.hid f2
  have F3 := Lib.hid f3
  have F4 := Lib.hid f4
  have F5 := Lib.hid f5
  have F6 := Lib.hid f6
  clear f1 f2 f3 f4 f5 f6
  go_enter Try.func6, Try.ntmps6
  go_wp2_with fail
  refine (awake_any _).mono ?_
  rintro e w1 ⟨rfl, hb⟩
  have k1 := hb.size
  go_wp2_with fail
  refine (getBytes_any a0 len0 cap0 w.heap.size xs w1 (HO.out.below hb) hlc hcm k1).mono ?_
  rintro e w2 ⟨Av, nv, cv, Ar, nr, cr, rfl, gv1, gv2, gr1, gr2, hOv, hOr, hb2⟩
  have k2 := hb2.size
  have u2 : Below w.heap.size w w2 := hb.trans (hb2.mono k1)
  have HOv := Lib.hid hOv
  have HOr := Lib.hid hOr
  clear hOv hOr
  go_wp2_with fail
  refine (getNums_any a0 len0 cap0 w.heap.size xs w2 (HO.out.below u2) hlc hcm (by omega)).mono ?_
  rintro e w3 ⟨Al, nl, cl, As, ns, cs, rfl, gs1, gs2, hNl, hOs, hb3⟩
  have k3 := hb3.size
  have u3 : Below w.heap.size w w3 := u2.trans (hb3.mono (by omega))
  have HNl := Lib.hid hNl
  have HOs := Lib.hid hOs
  clear hNl hOs
  go_wp2_with fail
  refine (getFlag_any a0 len0 cap0 w.heap.size xs w3 (HO.out.below u3) hlc hcm).mono ?_
  rintro e w4 ⟨At, nt, ct, rfl, gt1, gt2, hOt, hb4⟩
  have k4 := hb4.size
  have u4 : Below w.heap.size w w4 := u3.trans (hb4.mono (by omega))
  have HOt := Lib.hid hOt
  clear hOt
  generalize bytesP xs = P at *
  generalize bytesR xs = R at *
  generalize bytesE xs = E at *
  generalize numsL xs = L at *
  generalize numsR xs = S at *
  generalize numsE xs = F at *
  generalize flagB xs = X at *
  generalize flagR xs = T at *
  generalize flagE xs = G at *
  have O04 := Lib.hid (HO.out.below u4)
  have Ov4 := Lib.hid (HOv.out.below ((hb3.trans (hb4.mono k3)).mono (Nat.le_trans k1 k2)))
  have Or4 := Lib.hid (HOr.out.below ((hb3.trans (hb4.mono k3)).mono (Nat.le_trans k1 k2)))
  have Nl4 := Lib.hid ((HNl.out.below hb4).more k4)
  have Os4 := Lib.hid (HOs.out.below (hb4.mono (by omega)))
  have Ot4 := HOt
  clear HO HOv HOr HNl HOs HOt hb hb2 hb3 hb4 u2 u3
  by_cases hE : E = 0
  · subst hE
    have FB1 := Lib.hid (F1.out rfl)
    obtain ⟨sm1, em1⟩ : ∃ sm, strOfNums (bytesOct P) = sm := ⟨_, rfl⟩
    obtain ⟨sr1, er1⟩ : ∃ sr, strOfNums R = sr := ⟨_, rfl⟩
    have eb1 : strOfNums xs = sm1 ++ sr1 := by rw [← em1, ← er1, str_app, FB1.out]
    have z1 : ¬ 9223372036854775807 < sm1.size + sr1.size := app_small em1 er1 FB1.out (by rw [l0.out]; omega)
    go_wp2_with fail
    have c1_0 := Lib.hid (conv_keep (c := cr) Or4.out u4.size ((Below.refl w4.heap.size w4)).drew er1)
    have c1_1 := Lib.hid (conv_keep (c := cap0) O04.out u4.size ((Below.refl w4.heap.size w4)).drew eb1)
    refine seq_start (by kernel_rfl) ?_
    refine seq_move 0 36 (.int .i64 0) (.tmp 6) (by kernel_rfl) (by kernel_rfl) (by kernel_rfl) (by kernel_rfl) (by kernel_rfl) (fun _ _ _ h => h) (by kernel_rfl) ?_
    refine seq_bin 1 37 (.bool true) (.int .i64 0) (.int .i64 0) .eql 25 25 (.tmp 36) (.const (.int .i64 0)) (by kernel_rfl) (by kernel_rfl) (by kernel_rfl) (by kernel_rfl) (by kernel_rfl) (fun _ _ _ h => h) (by kernel_rfl) (by kernel_rfl) ?_ ?_
    · intro w'; go_simp
    refine seq_move 2 38 (.bool true) (.tmp 37) (by kernel_rfl) (by kernel_rfl) (by kernel_rfl) (by kernel_rfl) (by kernel_rfl) (fun _ _ _ h => h) (by kernel_rfl) ?_
    refine seq_move 3 39 (.slice Av nv cv) (.tmp 4) (by kernel_rfl) (by kernel_rfl) (by kernel_rfl) (by kernel_rfl) (by kernel_rfl) (fun _ _ _ h => h) (by kernel_rfl) ?_
    refine seq_move 6 42 (.slice Ar nr cr) (.tmp 5) (by kernel_rfl) (by kernel_rfl) (by kernel_rfl) (by kernel_rfl) (by kernel_rfl) (fun _ _ _ h => h) (by kernel_rfl) ?_
    refine seq_convert 7 43 (.string sr1) (.slice Ar nr cr) 22 9 (.tmp 42) (by kernel_rfl) (by kernel_rfl) (by kernel_rfl) (by kernel_rfl) (by kernel_rfl) (fun _ _ _ h => h) (by kernel_rfl) c1_0.out ?_
    refine seq_move 9 45 (.slice a0 len0 cap0) (.tmp 0) (by kernel_rfl) (by kernel_rfl) (by kernel_rfl) (by kernel_rfl) (by kernel_rfl) (fun _ _ _ h => h) (by kernel_rfl) ?_
    refine seq_convert 10 46 (.string (sm1 ++ sr1)) (.slice a0 len0 cap0) 22 9 (.tmp 45) (by kernel_rfl) (by kernel_rfl) (by kernel_rfl) (by kernel_rfl) (by kernel_rfl) (fun _ _ _ h => h) (by kernel_rfl) c1_1.out ?_
    refine seq_call 4 40 21 #[.const (.slice none 0 0), .tmp 39] #[22, 22] #[.slice none 0 0, .slice Av nv cv] (by kernel_rfl) (by kernel_rfl) (by kernel_rfl) (by kernel_rfl) (by kernel_rfl) ?_
    refine (putBytes_any none Av 0 0 nv cv w.heap.size [] P w4.drew (Oct.nil _ _ _) (Ov4.out.below ((((Below.refl w4.heap.size w4)).drew).mono u4.size)) (Nat.le_trans u4.size (((Below.refl w4.heap.size w4)).drew).size) (Nat.le_refl _) (Nat.zero_le _) (Nat.zero_le _)).mono ?_
    rw [List.nil_append]
    rintro e x1 ⟨A1, n1, d1, rfl, _, _, hO1, hb1⟩
    refine ⟨_, rfl, hb1, ?_⟩
    have q1 : Below w4.heap.size w4 x1 := ((Below.refl w4.heap.size w4)).drew.trans (hb1.mono ((Below.refl w4.heap.size w4)).drew.size)
    have e1 := Lib.hid (conv_keep (c := d1) hO1 (Nat.le_refl _) (Below.refl _ _) em1)
    clear hO1
    refine seq_convert 5 41 (.string sm1) (.slice A1 n1 d1) 22 9 (.tmp 40) (by kernel_rfl) (by kernel_rfl) (by kernel_rfl) (by kernel_rfl) (by kernel_rfl) (fun _ _ _ h => h) (by kernel_rfl) e1.out ?_
    refine seq_bin 8 44 (.string (sm1 ++ sr1)) (.string sm1) (.string sr1) .add 9 9 (.tmp 41) (.tmp 43) (by kernel_rfl) (by kernel_rfl) (by kernel_rfl) (by kernel_rfl) (by kernel_rfl) (fun _ _ _ h => h) (by kernel_rfl) (by kernel_rfl) ?_ ?_
    · intro w'; go_simp
    refine seq_bin 11 47 (.bool false) (.string (sm1 ++ sr1)) (.string (sm1 ++ sr1)) .neq 9 9 (.tmp 44) (.tmp 46) (by kernel_rfl) (by kernel_rfl) (by kernel_rfl) (by kernel_rfl) (by kernel_rfl) (fun _ _ _ h => h) (by kernel_rfl) (by kernel_rfl) ?_ ?_
    · intro w'; go_simp
    refine seq_pick 12 48 (.bool false) (.tmp 38) (.tmp 47) (.const (.bool false)) true (by kernel_rfl) (by kernel_rfl) (by kernel_rfl) (by kernel_rfl) (by kernel_rfl) (fun _ _ _ h => h) (by kernel_rfl) (by kernel_rfl) ?_
    refine seq_move 13 49 (.bool false) (.tmp 48) (by kernel_rfl) (by kernel_rfl) (by kernel_rfl) (by kernel_rfl) (by kernel_rfl) (fun _ _ _ h => h) (by kernel_rfl) ?_
    refine seq_move 14 50 (.int .i64 0) (.tmp 6) (by kernel_rfl) (by kernel_rfl) (by kernel_rfl) (by kernel_rfl) (by kernel_rfl) (fun _ _ _ h => h) (by kernel_rfl) ?_
    refine seq_bin 15 51 (.bool false) (.int .i64 0) (.int .i64 0) .neq 25 25 (.tmp 50) (.const (.int .i64 0)) (by kernel_rfl) (by kernel_rfl) (by kernel_rfl) (by kernel_rfl) (by kernel_rfl) (fun _ _ _ h => h) (by kernel_rfl) (by kernel_rfl) ?_ ?_
    · intro w'; go_simp
    refine seq_move 16 52 (.bool false) (.tmp 51) (by kernel_rfl) (by kernel_rfl) (by kernel_rfl) (by kernel_rfl) (by kernel_rfl) (fun _ _ _ h => h) (by kernel_rfl) ?_
    refine seq_skip 17 53 (by kernel_rfl) (by kernel_rfl) (by kernel_rfl) (by kernel_rfl) (by kernel_rfl) (fun _ _ _ h => h) ?_
    refine seq_skip 18 54 (by kernel_rfl) (by kernel_rfl) (by kernel_rfl) (by kernel_rfl) (by kernel_rfl) (fun _ _ _ h => h) ?_
    refine seq_skip 19 55 (by kernel_rfl) (by kernel_rfl) (by kernel_rfl) (by kernel_rfl) (by kernel_rfl) (fun _ _ _ h => h) ?_
    refine seq_skip 20 56 (by kernel_rfl) (by kernel_rfl) (by kernel_rfl) (by kernel_rfl) (by kernel_rfl) (fun _ _ _ h => h) ?_
    refine seq_skip 21 57 (by kernel_rfl) (by kernel_rfl) (by kernel_rfl) (by kernel_rfl) (by kernel_rfl) (fun _ _ _ h => h) ?_
    refine seq_skip 22 58 (by kernel_rfl) (by kernel_rfl) (by kernel_rfl) (by kernel_rfl) (by kernel_rfl) (fun _ _ _ h => h) ?_
    refine seq_pick 23 59 (.bool false) (.tmp 52) (.tmp 58) (.const (.bool false)) false (by kernel_rfl) (by kernel_rfl) (by kernel_rfl) (by kernel_rfl) (by kernel_rfl) (fun _ _ _ h => h) (by kernel_rfl) (by kernel_rfl) ?_
    refine seq_pick 24 60 (.bool false) (.tmp 49) (.const (.bool true)) (.tmp 59) false (by kernel_rfl) (by kernel_rfl) (by kernel_rfl) (by kernel_rfl) (by kernel_rfl) (fun _ _ _ h => h) (by kernel_rfl) (by kernel_rfl) ?_
    refine seq_done (by kernel_rfl) (by simp only [put_lit, List.set_cons_succ, List.set_cons_zero]; rfl) ?_ _
    by_cases hF : F = 0
    · subst hF
      have FB2 := Lib.hid (F3.out rfl).2
      obtain ⟨sm2, em2⟩ : ∃ sm, strOfNums (bytesOct (numsOct L)) = sm := ⟨_, rfl⟩
      obtain ⟨sr2, er2⟩ : ∃ sr, strOfNums S = sr := ⟨_, rfl⟩
      have eb2 : strOfNums xs = sm2 ++ sr2 := by rw [← em2, ← er2, str_app, FB2.out]
      have z2 : ¬ 9223372036854775807 < sm2.size + sr2.size := app_small em2 er2 FB2.out (by rw [l0.out]; omega)
      go_wp2_with fail
      have c2_0 := Lib.hid (conv_keep (c := cs) Os4.out u4.size (q1).drew er2)
      have c2_1 := Lib.hid (conv_keep (c := cap0) O04.out u4.size (q1).drew eb2)
      refine seq_start (by kernel_rfl) ?_
      refine seq_move 0 61 (.int .i64 0) (.tmp 9) (by kernel_rfl) (by kernel_rfl) (by kernel_rfl) (by kernel_rfl) (by kernel_rfl) (fun _ _ _ h => h) (by kernel_rfl) ?_
      refine seq_bin 1 62 (.bool true) (.int .i64 0) (.int .i64 0) .eql 25 25 (.tmp 61) (.const (.int .i64 0)) (by kernel_rfl) (by kernel_rfl) (by kernel_rfl) (by kernel_rfl) (by kernel_rfl) (fun _ _ _ h => h) (by kernel_rfl) (by kernel_rfl) ?_ ?_
      · intro w'; go_simp
      refine seq_move 2 63 (.bool true) (.tmp 62) (by kernel_rfl) (by kernel_rfl) (by kernel_rfl) (by kernel_rfl) (by kernel_rfl) (fun _ _ _ h => h) (by kernel_rfl) ?_
      refine seq_move 3 64 (.int .i64 0) (.tmp 6) (by kernel_rfl) (by kernel_rfl) (by kernel_rfl) (by kernel_rfl) (by kernel_rfl) (fun _ _ _ h => h) (by kernel_rfl) ?_
      refine seq_bin 4 65 (.bool false) (.int .i64 0) (.int .i64 0) .neq 25 25 (.tmp 64) (.const (.int .i64 0)) (by kernel_rfl) (by kernel_rfl) (by kernel_rfl) (by kernel_rfl) (by kernel_rfl) (fun _ _ _ h => h) (by kernel_rfl) (by kernel_rfl) ?_ ?_
      · intro w'; go_simp
      refine seq_move 5 66 (.bool false) (.tmp 65) (by kernel_rfl) (by kernel_rfl) (by kernel_rfl) (by kernel_rfl) (by kernel_rfl) (fun _ _ _ h => h) (by kernel_rfl) ?_
      refine seq_move 6 67 (.slice Al nl cl) (.tmp 7) (by kernel_rfl) (by kernel_rfl) (by kernel_rfl) (by kernel_rfl) (by kernel_rfl) (fun _ _ _ h => h) (by kernel_rfl) ?_
      refine seq_move 9 70 (.slice As ns cs) (.tmp 8) (by kernel_rfl) (by kernel_rfl) (by kernel_rfl) (by kernel_rfl) (by kernel_rfl) (fun _ _ _ h => h) (by kernel_rfl) ?_
      refine seq_convert 10 71 (.string sr2) (.slice As ns cs) 22 9 (.tmp 70) (by kernel_rfl) (by kernel_rfl) (by kernel_rfl) (by kernel_rfl) (by kernel_rfl) (fun _ _ _ h => h) (by kernel_rfl) c2_0.out ?_
      refine seq_move 12 73 (.slice a0 len0 cap0) (.tmp 0) (by kernel_rfl) (by kernel_rfl) (by kernel_rfl) (by kernel_rfl) (by kernel_rfl) (fun _ _ _ h => h) (by kernel_rfl) ?_
      refine seq_convert 13 74 (.string (sm2 ++ sr2)) (.slice a0 len0 cap0) 22 9 (.tmp 73) (by kernel_rfl) (by kernel_rfl) (by kernel_rfl) (by kernel_rfl) (by kernel_rfl) (fun _ _ _ h => h) (by kernel_rfl) c2_1.out ?_
      refine seq_call 7 68 23 #[.const (.slice none 0 0), .tmp 67] #[22, 23] #[.slice none 0 0, .slice Al nl cl] (by kernel_rfl) (by kernel_rfl) (by kernel_rfl) (by kernel_rfl) (by kernel_rfl) ?_
      refine (putNums_any none Al 0 0 nl cl w4.heap.size [] L x1.drew (Oct.nil _ _ _) (Nl4.out.below (q1).drew) ((q1).drew).size (Nat.le_refl _) (Nat.zero_le _) (Nat.zero_le _)).mono ?_
      rw [List.nil_append]
      rintro e x2 ⟨A2, n2, d2, rfl, _, _, hO2, hb2⟩
      refine ⟨_, rfl, hb2, ?_⟩
      have q2 : Below w4.heap.size w4 x2 := (q1).drew.trans (hb2.mono (q1).drew.size)
      have e2 := Lib.hid (conv_keep (c := d2) hO2 (Nat.le_refl _) (Below.refl _ _) em2)
      clear hO2
      refine seq_convert 8 69 (.string sm2) (.slice A2 n2 d2) 22 9 (.tmp 68) (by kernel_rfl) (by kernel_rfl) (by kernel_rfl) (by kernel_rfl) (by kernel_rfl) (fun _ _ _ h => h) (by kernel_rfl) e2.out ?_
      refine seq_bin 11 72 (.string (sm2 ++ sr2)) (.string sm2) (.string sr2) .add 9 9 (.tmp 69) (.tmp 71) (by kernel_rfl) (by kernel_rfl) (by kernel_rfl) (by kernel_rfl) (by kernel_rfl) (fun _ _ _ h => h) (by kernel_rfl) (by kernel_rfl) ?_ ?_
      · intro w'; go_simp
      refine seq_bin 14 75 (.bool false) (.string (sm2 ++ sr2)) (.string (sm2 ++ sr2)) .neq 9 9 (.tmp 72) (.tmp 74) (by kernel_rfl) (by kernel_rfl) (by kernel_rfl) (by kernel_rfl) (by kernel_rfl) (fun _ _ _ h => h) (by kernel_rfl) (by kernel_rfl) ?_ ?_
      · intro w'; go_simp
      refine seq_pick 15 76 (.bool false) (.tmp 66) (.const (.bool true)) (.tmp 75) false (by kernel_rfl) (by kernel_rfl) (by kernel_rfl) (by kernel_rfl) (by kernel_rfl) (fun _ _ _ h => h) (by kernel_rfl) (by kernel_rfl) ?_
      refine seq_pick 16 77 (.bool false) (.tmp 63) (.tmp 76) (.const (.bool false)) true (by kernel_rfl) (by kernel_rfl) (by kernel_rfl) (by kernel_rfl) (by kernel_rfl) (fun _ _ _ h => h) (by kernel_rfl) (by kernel_rfl) ?_
      refine seq_move 17 78 (.bool false) (.tmp 77) (by kernel_rfl) (by kernel_rfl) (by kernel_rfl) (by kernel_rfl) (by kernel_rfl) (fun _ _ _ h => h) (by kernel_rfl) ?_
      refine seq_move 18 79 (.int .i64 0) (.tmp 9) (by kernel_rfl) (by kernel_rfl) (by kernel_rfl) (by kernel_rfl) (by kernel_rfl) (fun _ _ _ h => h) (by kernel_rfl) ?_
      refine seq_bin 19 80 (.bool false) (.int .i64 0) (.int .i64 0) .neq 25 25 (.tmp 79) (.const (.int .i64 0)) (by kernel_rfl) (by kernel_rfl) (by kernel_rfl) (by kernel_rfl) (by kernel_rfl) (fun _ _ _ h => h) (by kernel_rfl) (by kernel_rfl) ?_ ?_
      · intro w'; go_simp
      refine seq_move 20 81 (.bool false) (.tmp 80) (by kernel_rfl) (by kernel_rfl) (by kernel_rfl) (by kernel_rfl) (by kernel_rfl) (fun _ _ _ h => h) (by kernel_rfl) ?_
      refine seq_skip 21 82 (by kernel_rfl) (by kernel_rfl) (by kernel_rfl) (by kernel_rfl) (by kernel_rfl) (fun _ _ _ h => h) ?_
      refine seq_skip 22 83 (by kernel_rfl) (by kernel_rfl) (by kernel_rfl) (by kernel_rfl) (by kernel_rfl) (fun _ _ _ h => h) ?_
      refine seq_skip 23 84 (by kernel_rfl) (by kernel_rfl) (by kernel_rfl) (by kernel_rfl) (by kernel_rfl) (fun _ _ _ h => h) ?_
      refine seq_skip 24 85 (by kernel_rfl) (by kernel_rfl) (by kernel_rfl) (by kernel_rfl) (by kernel_rfl) (fun _ _ _ h => h) ?_
      refine seq_skip 25 86 (by kernel_rfl) (by kernel_rfl) (by kernel_rfl) (by kernel_rfl) (by kernel_rfl) (fun _ _ _ h => h) ?_
      refine seq_skip 26 87 (by kernel_rfl) (by kernel_rfl) (by kernel_rfl) (by kernel_rfl) (by kernel_rfl) (fun _ _ _ h => h) ?_
      refine seq_pick 27 88 (.bool false) (.tmp 81) (.tmp 87) (.const (.bool false)) false (by kernel_rfl) (by kernel_rfl) (by kernel_rfl) (by kernel_rfl) (by kernel_rfl) (fun _ _ _ h => h) (by kernel_rfl) (by kernel_rfl) ?_
      refine seq_pick 28 89 (.bool false) (.tmp 78) (.const (.bool true)) (.tmp 88) false (by kernel_rfl) (by kernel_rfl) (by kernel_rfl) (by kernel_rfl) (by kernel_rfl) (fun _ _ _ h => h) (by kernel_rfl) (by kernel_rfl) ?_
      refine seq_done (by kernel_rfl) (by simp only [put_lit, List.set_cons_succ, List.set_cons_zero]; rfl) ?_ _
      by_cases hG : G = 0
      · subst hG
        have FB := Lib.hid (F5.out rfl)
        obtain ⟨sm3, em3⟩ : ∃ sm, strOfNums (flagOct X) = sm := ⟨_, rfl⟩
        obtain ⟨sr3, er3⟩ : ∃ sr, strOfNums T = sr := ⟨_, rfl⟩
        have eb3 : strOfNums xs = sm3 ++ sr3 := by rw [← em3, ← er3, str_app, FB.out]
        have z3 : ¬ 9223372036854775807 < sm3.size + sr3.size := app_small em3 er3 FB.out (by rw [l0.out]; omega)
        go_wp2_with fail
        have c3_0 := Lib.hid (conv_keep (c := ct) Ot4.out u4.size (q2).drew er3)
        have c3_1 := Lib.hid (conv_keep (c := cap0) O04.out u4.size (q2).drew eb3)
        refine seq_start (by kernel_rfl) ?_
        refine seq_move 0 90 (.bool true) (.tmp 3) (by kernel_rfl) (by kernel_rfl) (by kernel_rfl) (by kernel_rfl) (by kernel_rfl) (fun _ _ _ h => h) (by kernel_rfl) ?_
        refine seq_move 1 91 (.bool true) (.tmp 90) (by kernel_rfl) (by kernel_rfl) (by kernel_rfl) (by kernel_rfl) (by kernel_rfl) (fun _ _ _ h => h) (by kernel_rfl) ?_
        refine seq_move 2 92 (.int .i64 0) (.tmp 12) (by kernel_rfl) (by kernel_rfl) (by kernel_rfl) (by kernel_rfl) (by kernel_rfl) (fun _ _ _ h => h) (by kernel_rfl) ?_
        refine seq_bin 3 93 (.bool false) (.int .i64 0) (.int .i64 0) .neq 25 25 (.tmp 92) (.const (.int .i64 0)) (by kernel_rfl) (by kernel_rfl) (by kernel_rfl) (by kernel_rfl) (by kernel_rfl) (fun _ _ _ h => h) (by kernel_rfl) (by kernel_rfl) ?_ ?_
        · intro w'; go_simp
        refine seq_move 4 94 (.bool false) (.tmp 93) (by kernel_rfl) (by kernel_rfl) (by kernel_rfl) (by kernel_rfl) (by kernel_rfl) (fun _ _ _ h => h) (by kernel_rfl) ?_
        refine seq_move 5 95 (.bool X) (.tmp 10) (by kernel_rfl) (by kernel_rfl) (by kernel_rfl) (by kernel_rfl) (by kernel_rfl) (fun _ _ _ h => h) (by kernel_rfl) ?_
        refine seq_move 8 98 (.slice At nt ct) (.tmp 11) (by kernel_rfl) (by kernel_rfl) (by kernel_rfl) (by kernel_rfl) (by kernel_rfl) (fun _ _ _ h => h) (by kernel_rfl) ?_
        refine seq_convert 9 99 (.string sr3) (.slice At nt ct) 22 9 (.tmp 98) (by kernel_rfl) (by kernel_rfl) (by kernel_rfl) (by kernel_rfl) (by kernel_rfl) (fun _ _ _ h => h) (by kernel_rfl) c3_0.out ?_
        refine seq_move 11 101 (.slice a0 len0 cap0) (.tmp 0) (by kernel_rfl) (by kernel_rfl) (by kernel_rfl) (by kernel_rfl) (by kernel_rfl) (fun _ _ _ h => h) (by kernel_rfl) ?_
        refine seq_convert 12 102 (.string (sm3 ++ sr3)) (.slice a0 len0 cap0) 22 9 (.tmp 101) (by kernel_rfl) (by kernel_rfl) (by kernel_rfl) (by kernel_rfl) (by kernel_rfl) (fun _ _ _ h => h) (by kernel_rfl) c3_1.out ?_
        refine seq_call 6 96 25 #[.const (.slice none 0 0), .tmp 95] #[22, 4] #[.slice none 0 0, .bool X] (by kernel_rfl) (by kernel_rfl) (by kernel_rfl) (by kernel_rfl) (by kernel_rfl) ?_
        refine (putFlag_any none 0 0 0 [] X x2.drew (Oct.nil _ _ _) (Nat.zero_le _) (Nat.zero_le _)).mono ?_
        rw [List.nil_append]
        rintro e x3 ⟨A3, n3, d3, rfl, _, _, hO3, hb3⟩
        refine ⟨_, rfl, hb3, ?_⟩
        have q3 : Below w4.heap.size w4 x3 := (q2).drew.trans (hb3.mono (q2).drew.size)
        have e3 := Lib.hid (conv_keep (c := d3) hO3 (Nat.le_refl _) (Below.refl _ _) em3)
        clear hO3
        refine seq_convert 7 97 (.string sm3) (.slice A3 n3 d3) 22 9 (.tmp 96) (by kernel_rfl) (by kernel_rfl) (by kernel_rfl) (by kernel_rfl) (by kernel_rfl) (fun _ _ _ h => h) (by kernel_rfl) e3.out ?_
        refine seq_bin 10 100 (.string (sm3 ++ sr3)) (.string sm3) (.string sr3) .add 9 9 (.tmp 97) (.tmp 99) (by kernel_rfl) (by kernel_rfl) (by kernel_rfl) (by kernel_rfl) (by kernel_rfl) (fun _ _ _ h => h) (by kernel_rfl) (by kernel_rfl) ?_ ?_
        · intro w'; go_simp
        refine seq_bin 13 103 (.bool true) (.string (sm3 ++ sr3)) (.string (sm3 ++ sr3)) .eql 9 9 (.tmp 100) (.tmp 102) (by kernel_rfl) (by kernel_rfl) (by kernel_rfl) (by kernel_rfl) (by kernel_rfl) (fun _ _ _ h => h) (by kernel_rfl) (by kernel_rfl) ?_ ?_
        · intro w'; go_simp
        refine seq_pick 14 104 (.bool true) (.tmp 94) (.const (.bool true)) (.tmp 103) false (by kernel_rfl) (by kernel_rfl) (by kernel_rfl) (by kernel_rfl) (by kernel_rfl) (fun _ _ _ h => h) (by kernel_rfl) (by kernel_rfl) ?_
        refine seq_pick 15 105 (.bool true) (.tmp 91) (.tmp 104) (.const (.bool false)) true (by kernel_rfl) (by kernel_rfl) (by kernel_rfl) (by kernel_rfl) (by kernel_rfl) (fun _ _ _ h => h) (by kernel_rfl) (by kernel_rfl) ?_
        refine seq_move 16 106 (.bool true) (.tmp 105) (by kernel_rfl) (by kernel_rfl) (by kernel_rfl) (by kernel_rfl) (by kernel_rfl) (fun _ _ _ h => h) (by kernel_rfl) ?_
        refine seq_move 17 107 (.int .i64 0) (.tmp 12) (by kernel_rfl) (by kernel_rfl) (by kernel_rfl) (by kernel_rfl) (by kernel_rfl) (fun _ _ _ h => h) (by kernel_rfl) ?_
        refine seq_bin 18 108 (.bool true) (.int .i64 0) (.int .i64 0) .eql 25 25 (.tmp 107) (.const (.int .i64 0)) (by kernel_rfl) (by kernel_rfl) (by kernel_rfl) (by kernel_rfl) (by kernel_rfl) (fun _ _ _ h => h) (by kernel_rfl) (by kernel_rfl) ?_ ?_
        · intro w'; go_simp
        refine seq_move 19 109 (.bool true) (.tmp 108) (by kernel_rfl) (by kernel_rfl) (by kernel_rfl) (by kernel_rfl) (by kernel_rfl) (fun _ _ _ h => h) (by kernel_rfl) ?_
        refine seq_skip 20 110 (by kernel_rfl) (by kernel_rfl) (by kernel_rfl) (by kernel_rfl) (by kernel_rfl) (fun _ _ _ h => h) ?_
        refine seq_skip 21 111 (by kernel_rfl) (by kernel_rfl) (by kernel_rfl) (by kernel_rfl) (by kernel_rfl) (fun _ _ _ h => h) ?_
        refine seq_skip 22 112 (by kernel_rfl) (by kernel_rfl) (by kernel_rfl) (by kernel_rfl) (by kernel_rfl) (fun _ _ _ h => h) ?_
        refine seq_skip 23 113 (by kernel_rfl) (by kernel_rfl) (by kernel_rfl) (by kernel_rfl) (by kernel_rfl) (fun _ _ _ h => h) ?_
        refine seq_skip 24 114 (by kernel_rfl) (by kernel_rfl) (by kernel_rfl) (by kernel_rfl) (by kernel_rfl) (fun _ _ _ h => h) ?_
        refine seq_skip 25 115 (by kernel_rfl) (by kernel_rfl) (by kernel_rfl) (by kernel_rfl) (by kernel_rfl) (fun _ _ _ h => h) ?_
        refine seq_skip 26 116 (by kernel_rfl) (by kernel_rfl) (by kernel_rfl) (by kernel_rfl) (by kernel_rfl) (fun _ _ _ h => h) ?_
        refine seq_pick 27 117 (.bool true) (.tmp 109) (.const (.bool true)) (.tmp 116) true (by kernel_rfl) (by kernel_rfl) (by kernel_rfl) (by kernel_rfl) (by kernel_rfl) (fun _ _ _ h => h) (by kernel_rfl) (by kernel_rfl) ?_
        refine seq_pick 28 118 (.bool true) (.tmp 106) (.tmp 117) (.const (.bool false)) true (by kernel_rfl) (by kernel_rfl) (by kernel_rfl) (by kernel_rfl) (by kernel_rfl) (fun _ _ _ h => h) (by kernel_rfl) (by kernel_rfl) ?_
        refine seq_assign 29 2 (.bool true) (.tmp 118) (by kernel_rfl) (by kernel_rfl) (by kernel_rfl) (by kernel_rfl) (by kernel_rfl) (fun _ _ _ h => h) (by kernel_rfl) ?_
        refine seq_done (by kernel_rfl) (by simp only [put_lit, List.set_cons_succ, List.set_cons_zero]; rfl) ?_ _
        go_wp2
        go_ret
        exact ⟨by kernel_rfl, u4.trans ((q3).mono u4.size)⟩
      · have hG1 : (G == 0) = false := by simpa using hG
        obtain ⟨rfl, rfl⟩ := F6.out hG
        obtain rfl : nt = 0 := Ot4.out.1.symm
        go_wp2_with fail
        refine seq_start (by kernel_rfl) ?_
        refine seq_move 0 90 (.bool true) (.tmp 3) (by kernel_rfl) (by kernel_rfl) (by kernel_rfl) (by kernel_rfl) (by kernel_rfl) (fun _ _ _ h => h) (by kernel_rfl) ?_
        refine seq_move 1 91 (.bool true) (.tmp 90) (by kernel_rfl) (by kernel_rfl) (by kernel_rfl) (by kernel_rfl) (by kernel_rfl) (fun _ _ _ h => h) (by kernel_rfl) ?_
        refine seq_move 2 92 (.int .i64 G) (.tmp 12) (by kernel_rfl) (by kernel_rfl) (by kernel_rfl) (by kernel_rfl) (by kernel_rfl) (fun _ _ _ h => h) (by kernel_rfl) ?_
        refine seq_bin 3 93 (.bool true) (.int .i64 G) (.int .i64 0) .neq 25 25 (.tmp 92) (.const (.int .i64 0)) (by kernel_rfl) (by kernel_rfl) (by kernel_rfl) (by kernel_rfl) (by kernel_rfl) (fun _ _ _ h => h) (by kernel_rfl) (by kernel_rfl) ?_ ?_
        · intro w'; go_simp
        refine seq_move 4 94 (.bool true) (.tmp 93) (by kernel_rfl) (by kernel_rfl) (by kernel_rfl) (by kernel_rfl) (by kernel_rfl) (fun _ _ _ h => h) (by kernel_rfl) ?_
        refine seq_skip 5 95 (by kernel_rfl) (by kernel_rfl) (by kernel_rfl) (by kernel_rfl) (by kernel_rfl) (fun _ _ _ h => h) ?_
        refine seq_skip 8 98 (by kernel_rfl) (by kernel_rfl) (by kernel_rfl) (by kernel_rfl) (by kernel_rfl) (fun _ _ _ h => h) ?_
        refine seq_skip 9 99 (by kernel_rfl) (by kernel_rfl) (by kernel_rfl) (by kernel_rfl) (by kernel_rfl) (fun _ _ _ h => h) ?_
        refine seq_skip 11 101 (by kernel_rfl) (by kernel_rfl) (by kernel_rfl) (by kernel_rfl) (by kernel_rfl) (fun _ _ _ h => h) ?_
        refine seq_skip 12 102 (by kernel_rfl) (by kernel_rfl) (by kernel_rfl) (by kernel_rfl) (by kernel_rfl) (fun _ _ _ h => h) ?_
        refine seq_skip1 6 96 (by kernel_rfl) (by kernel_rfl) (by kernel_rfl) ?_
        refine seq_skip 7 97 (by kernel_rfl) (by kernel_rfl) (by kernel_rfl) (by kernel_rfl) (by kernel_rfl) (fun _ _ _ h => h) ?_
        refine seq_skip 10 100 (by kernel_rfl) (by kernel_rfl) (by kernel_rfl) (by kernel_rfl) (by kernel_rfl) (fun _ _ _ h => h) ?_
        refine seq_skip 13 103 (by kernel_rfl) (by kernel_rfl) (by kernel_rfl) (by kernel_rfl) (by kernel_rfl) (fun _ _ _ h => h) ?_
        refine seq_pick 14 104 (.bool true) (.tmp 94) (.const (.bool true)) (.tmp 103) true (by kernel_rfl) (by kernel_rfl) (by kernel_rfl) (by kernel_rfl) (by kernel_rfl) (fun _ _ _ h => h) (by kernel_rfl) (by kernel_rfl) ?_
        refine seq_pick 15 105 (.bool true) (.tmp 91) (.tmp 104) (.const (.bool false)) true (by kernel_rfl) (by kernel_rfl) (by kernel_rfl) (by kernel_rfl) (by kernel_rfl) (fun _ _ _ h => h) (by kernel_rfl) (by kernel_rfl) ?_
        refine seq_move 16 106 (.bool true) (.tmp 105) (by kernel_rfl) (by kernel_rfl) (by kernel_rfl) (by kernel_rfl) (by kernel_rfl) (fun _ _ _ h => h) (by kernel_rfl) ?_
        refine seq_move 17 107 (.int .i64 G) (.tmp 12) (by kernel_rfl) (by kernel_rfl) (by kernel_rfl) (by kernel_rfl) (by kernel_rfl) (fun _ _ _ h => h) (by kernel_rfl) ?_
        refine seq_bin 18 108 (.bool false) (.int .i64 G) (.int .i64 0) .eql 25 25 (.tmp 107) (.const (.int .i64 0)) (by kernel_rfl) (by kernel_rfl) (by kernel_rfl) (by kernel_rfl) (by kernel_rfl) (fun _ _ _ h => h) (by kernel_rfl) (by kernel_rfl) ?_ ?_
        · intro w'; go_simp
        refine seq_move 19 109 (.bool false) (.tmp 108) (by kernel_rfl) (by kernel_rfl) (by kernel_rfl) (by kernel_rfl) (by kernel_rfl) (fun _ _ _ h => h) (by kernel_rfl) ?_
        refine seq_move 20 110 (.bool false) (.tmp 10) (by kernel_rfl) (by kernel_rfl) (by kernel_rfl) (by kernel_rfl) (by kernel_rfl) (fun _ _ _ h => h) (by kernel_rfl) ?_
        refine seq_un 21 111 (.bool true) (.bool false) .not 4 (.tmp 110) (by kernel_rfl) (by kernel_rfl) (by kernel_rfl) (by kernel_rfl) (by kernel_rfl) (fun _ _ _ h => h) (by kernel_rfl) ?_ ?_
        · intro w'; go_simp
        refine seq_move 22 112 (.bool true) (.tmp 111) (by kernel_rfl) (by kernel_rfl) (by kernel_rfl) (by kernel_rfl) (by kernel_rfl) (fun _ _ _ h => h) (by kernel_rfl) ?_
        refine seq_move 23 113 (.slice At 0 ct) (.tmp 11) (by kernel_rfl) (by kernel_rfl) (by kernel_rfl) (by kernel_rfl) (by kernel_rfl) (fun _ _ _ h => h) (by kernel_rfl) ?_
        refine seq_len 24 114 At 0 ct (.tmp 113) #[22] (by kernel_rfl) (by kernel_rfl) (by kernel_rfl) (by kernel_rfl) (by kernel_rfl) (fun _ _ _ h => h) (by kernel_rfl) 22 _ rfl Try.underlying22 ?_
        refine seq_bin 25 115 (.bool true) (.int .i64 (0 : Nat)) (.int .i64 0) .eql 3 3 (.tmp 114) (.const (.int .i64 0)) (by kernel_rfl) (by kernel_rfl) (by kernel_rfl) (by kernel_rfl) (by kernel_rfl) (fun _ _ _ h => h) (by kernel_rfl) (by kernel_rfl) ?_ ?_
        · intro w'; go_simp
        refine seq_pick 26 116 (.bool true) (.tmp 112) (.tmp 115) (.const (.bool false)) true (by kernel_rfl) (by kernel_rfl) (by kernel_rfl) (by kernel_rfl) (by kernel_rfl) (fun _ _ _ h => h) (by kernel_rfl) (by kernel_rfl) ?_
        refine seq_pick 27 117 (.bool true) (.tmp 109) (.const (.bool true)) (.tmp 116) false (by kernel_rfl) (by kernel_rfl) (by kernel_rfl) (by kernel_rfl) (by kernel_rfl) (fun _ _ _ h => h) (by kernel_rfl) (by kernel_rfl) ?_
        refine seq_pick 28 118 (.bool true) (.tmp 106) (.tmp 117) (.const (.bool false)) true (by kernel_rfl) (by kernel_rfl) (by kernel_rfl) (by kernel_rfl) (by kernel_rfl) (fun _ _ _ h => h) (by kernel_rfl) (by kernel_rfl) ?_
        refine seq_assign 29 2 (.bool true) (.tmp 118) (by kernel_rfl) (by kernel_rfl) (by kernel_rfl) (by kernel_rfl) (by kernel_rfl) (fun _ _ _ h => h) (by kernel_rfl) ?_
        refine seq_done (by kernel_rfl) (by simp only [put_lit, List.set_cons_succ, List.set_cons_zero]; rfl) ?_ _
        go_wp2
        go_ret
        exact ⟨by kernel_rfl, u4.trans (((q2).drew).mono u4.size)⟩
    · have hF1 : (F == 0) = false := by simpa using hF
      obtain ⟨rfl, rfl⟩ := F4.out hF
      obtain rfl : nl = 0 := Nl4.out.1.symm
      obtain rfl : ns = 0 := Os4.out.1.symm
      go_wp2_with fail
      refine seq_start (by kernel_rfl) ?_
      refine seq_move 0 61 (.int .i64 F) (.tmp 9) (by kernel_rfl) (by kernel_rfl) (by kernel_rfl) (by kernel_rfl) (by kernel_rfl) (fun _ _ _ h => h) (by kernel_rfl) ?_
      refine seq_bin 1 62 (.bool false) (.int .i64 F) (.int .i64 0) .eql 25 25 (.tmp 61) (.const (.int .i64 0)) (by kernel_rfl) (by kernel_rfl) (by kernel_rfl) (by kernel_rfl) (by kernel_rfl) (fun _ _ _ h => h) (by kernel_rfl) (by kernel_rfl) ?_ ?_
      · intro w'; go_simp
      refine seq_move 2 63 (.bool false) (.tmp 62) (by kernel_rfl) (by kernel_rfl) (by kernel_rfl) (by kernel_rfl) (by kernel_rfl) (fun _ _ _ h => h) (by kernel_rfl) ?_
      refine seq_skip 3 64 (by kernel_rfl) (by kernel_rfl) (by kernel_rfl) (by kernel_rfl) (by kernel_rfl) (fun _ _ _ h => h) ?_
      refine seq_skip 4 65 (by kernel_rfl) (by kernel_rfl) (by kernel_rfl) (by kernel_rfl) (by kernel_rfl) (fun _ _ _ h => h) ?_
      refine seq_skip 5 66 (by kernel_rfl) (by kernel_rfl) (by kernel_rfl) (by kernel_rfl) (by kernel_rfl) (fun _ _ _ h => h) ?_
      refine seq_skip 6 67 (by kernel_rfl) (by kernel_rfl) (by kernel_rfl) (by kernel_rfl) (by kernel_rfl) (fun _ _ _ h => h) ?_
      refine seq_skip 9 70 (by kernel_rfl) (by kernel_rfl) (by kernel_rfl) (by kernel_rfl) (by kernel_rfl) (fun _ _ _ h => h) ?_
      refine seq_skip 10 71 (by kernel_rfl) (by kernel_rfl) (by kernel_rfl) (by kernel_rfl) (by kernel_rfl) (fun _ _ _ h => h) ?_
      refine seq_skip 12 73 (by kernel_rfl) (by kernel_rfl) (by kernel_rfl) (by kernel_rfl) (by kernel_rfl) (fun _ _ _ h => h) ?_
      refine seq_skip 13 74 (by kernel_rfl) (by kernel_rfl) (by kernel_rfl) (by kernel_rfl) (by kernel_rfl) (fun _ _ _ h => h) ?_
      refine seq_skip1 7 68 (by kernel_rfl) (by kernel_rfl) (by kernel_rfl) ?_
      refine seq_skip 8 69 (by kernel_rfl) (by kernel_rfl) (by kernel_rfl) (by kernel_rfl) (by kernel_rfl) (fun _ _ _ h => h) ?_
      refine seq_skip 11 72 (by kernel_rfl) (by kernel_rfl) (by kernel_rfl) (by kernel_rfl) (by kernel_rfl) (fun _ _ _ h => h) ?_
      refine seq_skip 14 75 (by kernel_rfl) (by kernel_rfl) (by kernel_rfl) (by kernel_rfl) (by kernel_rfl) (fun _ _ _ h => h) ?_
      refine seq_skip 15 76 (by kernel_rfl) (by kernel_rfl) (by kernel_rfl) (by kernel_rfl) (by kernel_rfl) (fun _ _ _ h => h) ?_
      refine seq_pick 16 77 (.bool false) (.tmp 63) (.tmp 76) (.const (.bool false)) false (by kernel_rfl) (by kernel_rfl) (by kernel_rfl) (by kernel_rfl) (by kernel_rfl) (fun _ _ _ h => h) (by kernel_rfl) (by kernel_rfl) ?_
      refine seq_move 17 78 (.bool false) (.tmp 77) (by kernel_rfl) (by kernel_rfl) (by kernel_rfl) (by kernel_rfl) (by kernel_rfl) (fun _ _ _ h => h) (by kernel_rfl) ?_
      refine seq_move 18 79 (.int .i64 F) (.tmp 9) (by kernel_rfl) (by kernel_rfl) (by kernel_rfl) (by kernel_rfl) (by kernel_rfl) (fun _ _ _ h => h) (by kernel_rfl) ?_
      refine seq_bin 19 80 (.bool true) (.int .i64 F) (.int .i64 0) .neq 25 25 (.tmp 79) (.const (.int .i64 0)) (by kernel_rfl) (by kernel_rfl) (by kernel_rfl) (by kernel_rfl) (by kernel_rfl) (fun _ _ _ h => h) (by kernel_rfl) (by kernel_rfl) ?_ ?_
      · intro w'; go_simp
      refine seq_move 20 81 (.bool true) (.tmp 80) (by kernel_rfl) (by kernel_rfl) (by kernel_rfl) (by kernel_rfl) (by kernel_rfl) (fun _ _ _ h => h) (by kernel_rfl) ?_
      refine seq_move 21 82 (.slice Al 0 cl) (.tmp 7) (by kernel_rfl) (by kernel_rfl) (by kernel_rfl) (by kernel_rfl) (by kernel_rfl) (fun _ _ _ h => h) (by kernel_rfl) ?_
      refine seq_len 22 83 Al 0 cl (.tmp 82) #[23] (by kernel_rfl) (by kernel_rfl) (by kernel_rfl) (by kernel_rfl) (by kernel_rfl) (fun _ _ _ h => h) (by kernel_rfl) 23 _ rfl Try.underlying23 ?_
      refine seq_move 23 84 (.slice As 0 cs) (.tmp 8) (by kernel_rfl) (by kernel_rfl) (by kernel_rfl) (by kernel_rfl) (by kernel_rfl) (fun _ _ _ h => h) (by kernel_rfl) ?_
      refine seq_len 24 85 As 0 cs (.tmp 84) #[22] (by kernel_rfl) (by kernel_rfl) (by kernel_rfl) (by kernel_rfl) (by kernel_rfl) (fun _ _ _ h => h) (by kernel_rfl) 22 _ rfl Try.underlying22 ?_
      refine seq_bin 25 86 (.int .i64 0) (.int .i64 (0 : Nat)) (.int .i64 (0 : Nat)) .add 3 3 (.tmp 83) (.tmp 85) (by kernel_rfl) (by kernel_rfl) (by kernel_rfl) (by kernel_rfl) (by kernel_rfl) (fun _ _ _ h => h) (by kernel_rfl) (by kernel_rfl) ?_ ?_
      · intro w'; go_simp; rfl
      refine seq_bin 26 87 (.bool false) (.int .i64 0) (.int .i64 0) .gtr 3 3 (.tmp 86) (.const (.int .i64 0)) (by kernel_rfl) (by kernel_rfl) (by kernel_rfl) (by kernel_rfl) (by kernel_rfl) (fun _ _ _ h => h) (by kernel_rfl) (by kernel_rfl) ?_ ?_
      · intro w'; go_simp
      refine seq_pick 27 88 (.bool false) (.tmp 81) (.tmp 87) (.const (.bool false)) true (by kernel_rfl) (by kernel_rfl) (by kernel_rfl) (by kernel_rfl) (by kernel_rfl) (fun _ _ _ h => h) (by kernel_rfl) (by kernel_rfl) ?_
      refine seq_pick 28 89 (.bool false) (.tmp 78) (.const (.bool true)) (.tmp 88) false (by kernel_rfl) (by kernel_rfl) (by kernel_rfl) (by kernel_rfl) (by kernel_rfl) (fun _ _ _ h => h) (by kernel_rfl) (by kernel_rfl) ?_
      refine seq_done (by kernel_rfl) (by simp only [put_lit, List.set_cons_succ, List.set_cons_zero]; rfl) ?_ _
      by_cases hG : G = 0
      · subst hG
        have FB := Lib.hid (F5.out rfl)
        obtain ⟨sm3, em3⟩ : ∃ sm, strOfNums (flagOct X) = sm := ⟨_, rfl⟩
        obtain ⟨sr3, er3⟩ : ∃ sr, strOfNums T = sr := ⟨_, rfl⟩
        have eb3 : strOfNums xs = sm3 ++ sr3 := by rw [← em3, ← er3, str_app, FB.out]
        have z3 : ¬ 9223372036854775807 < sm3.size + sr3.size := app_small em3 er3 FB.out (by rw [l0.out]; omega)
        go_wp2_with fail
        have c6_0 := Lib.hid (conv_keep (c := ct) Ot4.out u4.size ((q1).drew).drew er3)
        have c6_1 := Lib.hid (conv_keep (c := cap0) O04.out u4.size ((q1).drew).drew eb3)
        refine seq_start (by kernel_rfl) ?_
        refine seq_move 0 90 (.bool true) (.tmp 3) (by kernel_rfl) (by kernel_rfl) (by kernel_rfl) (by kernel_rfl) (by kernel_rfl) (fun _ _ _ h => h) (by kernel_rfl) ?_
        refine seq_move 1 91 (.bool true) (.tmp 90) (by kernel_rfl) (by kernel_rfl) (by kernel_rfl) (by kernel_rfl) (by kernel_rfl) (fun _ _ _ h => h) (by kernel_rfl) ?_
        refine seq_move 2 92 (.int .i64 0) (.tmp 12) (by kernel_rfl) (by kernel_rfl) (by kernel_rfl) (by kernel_rfl) (by kernel_rfl) (fun _ _ _ h => h) (by kernel_rfl) ?_
        refine seq_bin 3 93 (.bool false) (.int .i64 0) (.int .i64 0) .neq 25 25 (.tmp 92) (.const (.int .i64 0)) (by kernel_rfl) (by kernel_rfl) (by kernel_rfl) (by kernel_rfl) (by kernel_rfl) (fun _ _ _ h => h) (by kernel_rfl) (by kernel_rfl) ?_ ?_
        · intro w'; go_simp
        refine seq_move 4 94 (.bool false) (.tmp 93) (by kernel_rfl) (by kernel_rfl) (by kernel_rfl) (by kernel_rfl) (by kernel_rfl) (fun _ _ _ h => h) (by kernel_rfl) ?_
        refine seq_move 5 95 (.bool X) (.tmp 10) (by kernel_rfl) (by kernel_rfl) (by kernel_rfl) (by kernel_rfl) (by kernel_rfl) (fun _ _ _ h => h) (by kernel_rfl) ?_
        refine seq_move 8 98 (.slice At nt ct) (.tmp 11) (by kernel_rfl) (by kernel_rfl) (by kernel_rfl) (by kernel_rfl) (by kernel_rfl) (fun _ _ _ h => h) (by kernel_rfl) ?_
        refine seq_convert 9 99 (.string sr3) (.slice At nt ct) 22 9 (.tmp 98) (by kernel_rfl) (by kernel_rfl) (by kernel_rfl) (by kernel_rfl) (by kernel_rfl) (fun _ _ _ h => h) (by kernel_rfl) c6_0.out ?_
        refine seq_move 11 101 (.slice a0 len0 cap0) (.tmp 0) (by kernel_rfl) (by kernel_rfl) (by kernel_rfl) (by kernel_rfl) (by kernel_rfl) (fun _ _ _ h => h) (by kernel_rfl) ?_
        refine seq_convert 12 102 (.string (sm3 ++ sr3)) (.slice a0 len0 cap0) 22 9 (.tmp 101) (by kernel_rfl) (by kernel_rfl) (by kernel_rfl) (by kernel_rfl) (by kernel_rfl) (fun _ _ _ h => h) (by kernel_rfl) c6_1.out ?_
        refine seq_call 6 96 25 #[.const (.slice none 0 0), .tmp 95] #[22, 4] #[.slice none 0 0, .bool X] (by kernel_rfl) (by kernel_rfl) (by kernel_rfl) (by kernel_rfl) (by kernel_rfl) ?_
        refine (putFlag_any none 0 0 0 [] X x1.drew.drew (Oct.nil _ _ _) (Nat.zero_le _) (Nat.zero_le _)).mono ?_
        rw [List.nil_append]
        rintro e x6 ⟨A6, n6, d6, rfl, _, _, hO6, hb6⟩
        refine ⟨_, rfl, hb6, ?_⟩
        have q6 : Below w4.heap.size w4 x6 := ((q1).drew).drew.trans (hb6.mono ((q1).drew).drew.size)
        have e6 := Lib.hid (conv_keep (c := d6) hO6 (Nat.le_refl _) (Below.refl _ _) em3)
        clear hO6
        refine seq_convert 7 97 (.string sm3) (.slice A6 n6 d6) 22 9 (.tmp 96) (by kernel_rfl) (by kernel_rfl) (by kernel_rfl) (by kernel_rfl) (by kernel_rfl) (fun _ _ _ h => h) (by kernel_rfl) e6.out ?_
        refine seq_bin 10 100 (.string (sm3 ++ sr3)) (.string sm3) (.string sr3) .add 9 9 (.tmp 97) (.tmp 99) (by kernel_rfl) (by kernel_rfl) (by kernel_rfl) (by kernel_rfl) (by kernel_rfl) (fun _ _ _ h => h) (by kernel_rfl) (by kernel_rfl) ?_ ?_
        · intro w'; go_simp
        refine seq_bin 13 103 (.bool true) (.string (sm3 ++ sr3)) (.string (sm3 ++ sr3)) .eql 9 9 (.tmp 100) (.tmp 102) (by kernel_rfl) (by kernel_rfl) (by kernel_rfl) (by kernel_rfl) (by kernel_rfl) (fun _ _ _ h => h) (by kernel_rfl) (by kernel_rfl) ?_ ?_
        · intro w'; go_simp
        refine seq_pick 14 104 (.bool true) (.tmp 94) (.const (.bool true)) (.tmp 103) false (by kernel_rfl) (by kernel_rfl) (by kernel_rfl) (by kernel_rfl) (by kernel_rfl) (fun _ _ _ h => h) (by kernel_rfl) (by kernel_rfl) ?_
        refine seq_pick 15 105 (.bool true) (.tmp 91) (.tmp 104) (.const (.bool false)) true (by kernel_rfl) (by kernel_rfl) (by kernel_rfl) (by kernel_rfl) (by kernel_rfl) (fun _ _ _ h => h) (by kernel_rfl) (by kernel_rfl) ?_
        refine seq_move 16 106 (.bool true) (.tmp 105) (by kernel_rfl) (by kernel_rfl) (by kernel_rfl) (by kernel_rfl) (by kernel_rfl) (fun _ _ _ h => h) (by kernel_rfl) ?_
        refine seq_move 17 107 (.int .i64 0) (.tmp 12) (by kernel_rfl) (by kernel_rfl) (by kernel_rfl) (by kernel_rfl) (by kernel_rfl) (fun _ _ _ h => h) (by kernel_rfl) ?_
        refine seq_bin 18 108 (.bool true) (.int .i64 0) (.int .i64 0) .eql 25 25 (.tmp 107) (.const (.int .i64 0)) (by kernel_rfl) (by kernel_rfl) (by kernel_rfl) (by kernel_rfl) (by kernel_rfl) (fun _ _ _ h => h) (by kernel_rfl) (by kernel_rfl) ?_ ?_
        · intro w'; go_simp
        refine seq_move 19 109 (.bool true) (.tmp 108) (by kernel_rfl) (by kernel_rfl) (by kernel_rfl) (by kernel_rfl) (by kernel_rfl) (fun _ _ _ h => h) (by kernel_rfl) ?_
        refine seq_skip 20 110 (by kernel_rfl) (by kernel_rfl) (by kernel_rfl) (by kernel_rfl) (by kernel_rfl) (fun _ _ _ h => h) ?_
        refine seq_skip 21 111 (by kernel_rfl) (by kernel_rfl) (by kernel_rfl) (by kernel_rfl) (by kernel_rfl) (fun _ _ _ h => h) ?_
        refine seq_skip 22 112 (by kernel_rfl) (by kernel_rfl) (by kernel_rfl) (by kernel_rfl) (by kernel_rfl) (fun _ _ _ h => h) ?_
        refine seq_skip 23 113 (by kernel_rfl) (by kernel_rfl) (by kernel_rfl) (by kernel_rfl) (by kernel_rfl) (fun _ _ _ h => h) ?_
        refine seq_skip 24 114 (by kernel_rfl) (by kernel_rfl) (by kernel_rfl) (by kernel_rfl) (by kernel_rfl) (fun _ _ _ h => h) ?_
        refine seq_skip 25 115 (by kernel_rfl) (by kernel_rfl) (by kernel_rfl) (by kernel_rfl) (by kernel_rfl) (fun _ _ _ h => h) ?_
        refine seq_skip 26 116 (by kernel_rfl) (by kernel_rfl) (by kernel_rfl) (by kernel_rfl) (by kernel_rfl) (fun _ _ _ h => h) ?_
        refine seq_pick 27 117 (.bool true) (.tmp 109) (.const (.bool true)) (.tmp 116) true (by kernel_rfl) (by kernel_rfl) (by kernel_rfl) (by kernel_rfl) (by kernel_rfl) (fun _ _ _ h => h) (by kernel_rfl) (by kernel_rfl) ?_
        refine seq_pick 28 118 (.bool true) (.tmp 106) (.tmp 117) (.const (.bool false)) true (by kernel_rfl) (by kernel_rfl) (by kernel_rfl) (by kernel_rfl) (by kernel_rfl) (fun _ _ _ h => h) (by kernel_rfl) (by kernel_rfl) ?_
        refine seq_assign 29 2 (.bool true) (.tmp 118) (by kernel_rfl) (by kernel_rfl) (by kernel_rfl) (by kernel_rfl) (by kernel_rfl) (fun _ _ _ h => h) (by kernel_rfl) ?_
        refine seq_done (by kernel_rfl) (by simp only [put_lit, List.set_cons_succ, List.set_cons_zero]; rfl) ?_ _
        go_wp2
        go_ret
        exact ⟨by kernel_rfl, u4.trans ((q6).mono u4.size)⟩
      · have hG1 : (G == 0) = false := by simpa using hG
        obtain ⟨rfl, rfl⟩ := F6.out hG
        obtain rfl : nt = 0 := Ot4.out.1.symm
        go_wp2_with fail
        refine seq_start (by kernel_rfl) ?_
        refine seq_move 0 90 (.bool true) (.tmp 3) (by kernel_rfl) (by kernel_rfl) (by kernel_rfl) (by kernel_rfl) (by kernel_rfl) (fun _ _ _ h => h) (by kernel_rfl) ?_
        refine seq_move 1 91 (.bool true) (.tmp 90) (by kernel_rfl) (by kernel_rfl) (by kernel_rfl) (by kernel_rfl) (by kernel_rfl) (fun _ _ _ h => h) (by kernel_rfl) ?_
        refine seq_move 2 92 (.int .i64 G) (.tmp 12) (by kernel_rfl) (by kernel_rfl) (by kernel_rfl) (by kernel_rfl) (by kernel_rfl) (fun _ _ _ h => h) (by kernel_rfl) ?_
        refine seq_bin 3 93 (.bool true) (.int .i64 G) (.int .i64 0) .neq 25 25 (.tmp 92) (.const (.int .i64 0)) (by kernel_rfl) (by kernel_rfl) (by kernel_rfl) (by kernel_rfl) (by kernel_rfl) (fun _ _ _ h => h) (by kernel_rfl) (by kernel_rfl) ?_ ?_
        · intro w'; go_simp
        refine seq_move 4 94 (.bool true) (.tmp 93) (by kernel_rfl) (by kernel_rfl) (by kernel_rfl) (by kernel_rfl) (by kernel_rfl) (fun _ _ _ h => h) (by kernel_rfl) ?_
        refine seq_skip 5 95 (by kernel_rfl) (by kernel_rfl) (by kernel_rfl) (by kernel_rfl) (by kernel_rfl) (fun _ _ _ h => h) ?_
        refine seq_skip 8 98 (by kernel_rfl) (by kernel_rfl) (by kernel_rfl) (by kernel_rfl) (by kernel_rfl) (fun _ _ _ h => h) ?_
        refine seq_skip 9 99 (by kernel_rfl) (by kernel_rfl) (by kernel_rfl) (by kernel_rfl) (by kernel_rfl) (fun _ _ _ h => h) ?_
        refine seq_skip 11 101 (by kernel_rfl) (by kernel_rfl) (by kernel_rfl) (by kernel_rfl) (by kernel_rfl) (fun _ _ _ h => h) ?_
        refine seq_skip 12 102 (by kernel_rfl) (by kernel_rfl) (by kernel_rfl) (by kernel_rfl) (by kernel_rfl) (fun _ _ _ h => h) ?_
        refine seq_skip1 6 96 (by kernel_rfl) (by kernel_rfl) (by kernel_rfl) ?_
        refine seq_skip 7 97 (by kernel_rfl) (by kernel_rfl) (by kernel_rfl) (by kernel_rfl) (by kernel_rfl) (fun _ _ _ h => h) ?_
        refine seq_skip 10 100 (by kernel_rfl) (by kernel_rfl) (by kernel_rfl) (by kernel_rfl) (by kernel_rfl) (fun _ _ _ h => h) ?_
        refine seq_skip 13 103 (by kernel_rfl) (by kernel_rfl) (by kernel_rfl) (by kernel_rfl) (by kernel_rfl) (fun _ _ _ h => h) ?_
        refine seq_pick 14 104 (.bool true) (.tmp 94) (.const (.bool true)) (.tmp 103) true (by kernel_rfl) (by kernel_rfl) (by kernel_rfl) (by kernel_rfl) (by kernel_rfl) (fun _ _ _ h => h) (by kernel_rfl) (by kernel_rfl) ?_
        refine seq_pick 15 105 (.bool true) (.tmp 91) (.tmp 104) (.const (.bool false)) true (by kernel_rfl) (by kernel_rfl) (by kernel_rfl) (by kernel_rfl) (by kernel_rfl) (fun _ _ _ h => h) (by kernel_rfl) (by kernel_rfl) ?_
        refine seq_move 16 106 (.bool true) (.tmp 105) (by kernel_rfl) (by kernel_rfl) (by kernel_rfl) (by kernel_rfl) (by kernel_rfl) (fun _ _ _ h => h) (by kernel_rfl) ?_
        refine seq_move 17 107 (.int .i64 G) (.tmp 12) (by kernel_rfl) (by kernel_rfl) (by kernel_rfl) (by kernel_rfl) (by kernel_rfl) (fun _ _ _ h => h) (by kernel_rfl) ?_
        refine seq_bin 18 108 (.bool false) (.int .i64 G) (.int .i64 0) .eql 25 25 (.tmp 107) (.const (.int .i64 0)) (by kernel_rfl) (by kernel_rfl) (by kernel_rfl) (by kernel_rfl) (by kernel_rfl) (fun _ _ _ h => h) (by kernel_rfl) (by kernel_rfl) ?_ ?_
        · intro w'; go_simp
        refine seq_move 19 109 (.bool false) (.tmp 108) (by kernel_rfl) (by kernel_rfl) (by kernel_rfl) (by kernel_rfl) (by kernel_rfl) (fun _ _ _ h => h) (by kernel_rfl) ?_
        refine seq_move 20 110 (.bool false) (.tmp 10) (by kernel_rfl) (by kernel_rfl) (by kernel_rfl) (by kernel_rfl) (by kernel_rfl) (fun _ _ _ h => h) (by kernel_rfl) ?_
        refine seq_un 21 111 (.bool true) (.bool false) .not 4 (.tmp 110) (by kernel_rfl) (by kernel_rfl) (by kernel_rfl) (by kernel_rfl) (by kernel_rfl) (fun _ _ _ h => h) (by kernel_rfl) ?_ ?_
        · intro w'; go_simp
        refine seq_move 22 112 (.bool true) (.tmp 111) (by kernel_rfl) (by kernel_rfl) (by kernel_rfl) (by kernel_rfl) (by kernel_rfl) (fun _ _ _ h => h) (by kernel_rfl) ?_
        refine seq_move 23 113 (.slice At 0 ct) (.tmp 11) (by kernel_rfl) (by kernel_rfl) (by kernel_rfl) (by kernel_rfl) (by kernel_rfl) (fun _ _ _ h => h) (by kernel_rfl) ?_
        refine seq_len 24 114 At 0 ct (.tmp 113) #[22] (by kernel_rfl) (by kernel_rfl) (by kernel_rfl) (by kernel_rfl) (by kernel_rfl) (fun _ _ _ h => h) (by kernel_rfl) 22 _ rfl Try.underlying22 ?_
        refine seq_bin 25 115 (.bool true) (.int .i64 (0 : Nat)) (.int .i64 0) .eql 3 3 (.tmp 114) (.const (.int .i64 0)) (by kernel_rfl) (by kernel_rfl) (by kernel_rfl) (by kernel_rfl) (by kernel_rfl) (fun _ _ _ h => h) (by kernel_rfl) (by kernel_rfl) ?_ ?_
        · intro w'; go_simp
        refine seq_pick 26 116 (.bool true) (.tmp 112) (.tmp 115) (.const (.bool false)) true (by kernel_rfl) (by kernel_rfl) (by kernel_rfl) (by kernel_rfl) (by kernel_rfl) (fun _ _ _ h => h) (by kernel_rfl) (by kernel_rfl) ?_
        refine seq_pick 27 117 (.bool true) (.tmp 109) (.const (.bool true)) (.tmp 116) false (by kernel_rfl) (by kernel_rfl) (by kernel_rfl) (by kernel_rfl) (by kernel_rfl) (fun _ _ _ h => h) (by kernel_rfl) (by kernel_rfl) ?_
        refine seq_pick 28 118 (.bool true) (.tmp 106) (.tmp 117) (.const (.bool false)) true (by kernel_rfl) (by kernel_rfl) (by kernel_rfl) (by kernel_rfl) (by kernel_rfl) (fun _ _ _ h => h) (by kernel_rfl) (by kernel_rfl) ?_
        refine seq_assign 29 2 (.bool true) (.tmp 118) (by kernel_rfl) (by kernel_rfl) (by kernel_rfl) (by kernel_rfl) (by kernel_rfl) (fun _ _ _ h => h) (by kernel_rfl) ?_
        refine seq_done (by kernel_rfl) (by simp only [put_lit, List.set_cons_succ, List.set_cons_zero]; rfl) ?_ _
        go_wp2
        go_ret
        exact ⟨by kernel_rfl, u4.trans ((((q1).drew).drew).mono u4.size)⟩
  · have hE1 : (E == 0) = false := by simpa using hE
    obtain ⟨rfl, rfl⟩ := F2.out hE
    obtain rfl : nv = 0 := Ov4.out.1.symm
    obtain rfl : nr = 0 := Or4.out.1.symm
    go_wp2_with fail
    refine seq_start (by kernel_rfl) ?_
    refine seq_move 0 36 (.int .i64 E) (.tmp 6) (by kernel_rfl) (by kernel_rfl) (by kernel_rfl) (by kernel_rfl) (by kernel_rfl) (fun _ _ _ h => h) (by kernel_rfl) ?_
    refine seq_bin 1 37 (.bool false) (.int .i64 E) (.int .i64 0) .eql 25 25 (.tmp 36) (.const (.int .i64 0)) (by kernel_rfl) (by kernel_rfl) (by kernel_rfl) (by kernel_rfl) (by kernel_rfl) (fun _ _ _ h => h) (by kernel_rfl) (by kernel_rfl) ?_ ?_
    · intro w'; go_simp
    refine seq_move 2 38 (.bool false) (.tmp 37) (by kernel_rfl) (by kernel_rfl) (by kernel_rfl) (by kernel_rfl) (by kernel_rfl) (fun _ _ _ h => h) (by kernel_rfl) ?_
    refine seq_skip 3 39 (by kernel_rfl) (by kernel_rfl) (by kernel_rfl) (by kernel_rfl) (by kernel_rfl) (fun _ _ _ h => h) ?_
    refine seq_skip 6 42 (by kernel_rfl) (by kernel_rfl) (by kernel_rfl) (by kernel_rfl) (by kernel_rfl) (fun _ _ _ h => h) ?_
    refine seq_skip 7 43 (by kernel_rfl) (by kernel_rfl) (by kernel_rfl) (by kernel_rfl) (by kernel_rfl) (fun _ _ _ h => h) ?_
    refine seq_skip 9 45 (by kernel_rfl) (by kernel_rfl) (by kernel_rfl) (by kernel_rfl) (by kernel_rfl) (fun _ _ _ h => h) ?_
    refine seq_skip 10 46 (by kernel_rfl) (by kernel_rfl) (by kernel_rfl) (by kernel_rfl) (by kernel_rfl) (fun _ _ _ h => h) ?_
    refine seq_skip1 4 40 (by kernel_rfl) (by kernel_rfl) (by kernel_rfl) ?_
    refine seq_skip 5 41 (by kernel_rfl) (by kernel_rfl) (by kernel_rfl) (by kernel_rfl) (by kernel_rfl) (fun _ _ _ h => h) ?_
    refine seq_skip 8 44 (by kernel_rfl) (by kernel_rfl) (by kernel_rfl) (by kernel_rfl) (by kernel_rfl) (fun _ _ _ h => h) ?_
    refine seq_skip 11 47 (by kernel_rfl) (by kernel_rfl) (by kernel_rfl) (by kernel_rfl) (by kernel_rfl) (fun _ _ _ h => h) ?_
    refine seq_pick 12 48 (.bool false) (.tmp 38) (.tmp 47) (.const (.bool false)) false (by kernel_rfl) (by kernel_rfl) (by kernel_rfl) (by kernel_rfl) (by kernel_rfl) (fun _ _ _ h => h) (by kernel_rfl) (by kernel_rfl) ?_
    refine seq_move 13 49 (.bool false) (.tmp 48) (by kernel_rfl) (by kernel_rfl) (by kernel_rfl) (by kernel_rfl) (by kernel_rfl) (fun _ _ _ h => h) (by kernel_rfl) ?_
    refine seq_move 14 50 (.int .i64 E) (.tmp 6) (by kernel_rfl) (by kernel_rfl) (by kernel_rfl) (by kernel_rfl) (by kernel_rfl) (fun _ _ _ h => h) (by kernel_rfl) ?_
    refine seq_bin 15 51 (.bool true) (.int .i64 E) (.int .i64 0) .neq 25 25 (.tmp 50) (.const (.int .i64 0)) (by kernel_rfl) (by kernel_rfl) (by kernel_rfl) (by kernel_rfl) (by kernel_rfl) (fun _ _ _ h => h) (by kernel_rfl) (by kernel_rfl) ?_ ?_
    · intro w'; go_simp
    refine seq_move 16 52 (.bool true) (.tmp 51) (by kernel_rfl) (by kernel_rfl) (by kernel_rfl) (by kernel_rfl) (by kernel_rfl) (fun _ _ _ h => h) (by kernel_rfl) ?_
    refine seq_move 17 53 (.slice Av 0 cv) (.tmp 4) (by kernel_rfl) (by kernel_rfl) (by kernel_rfl) (by kernel_rfl) (by kernel_rfl) (fun _ _ _ h => h) (by kernel_rfl) ?_
    refine seq_len 18 54 Av 0 cv (.tmp 53) #[22] (by kernel_rfl) (by kernel_rfl) (by kernel_rfl) (by kernel_rfl) (by kernel_rfl) (fun _ _ _ h => h) (by kernel_rfl) 22 _ rfl Try.underlying22 ?_
    refine seq_move 19 55 (.slice Ar 0 cr) (.tmp 5) (by kernel_rfl) (by kernel_rfl) (by kernel_rfl) (by kernel_rfl) (by kernel_rfl) (fun _ _ _ h => h) (by kernel_rfl) ?_
    refine seq_len 20 56 Ar 0 cr (.tmp 55) #[22] (by kernel_rfl) (by kernel_rfl) (by kernel_rfl) (by kernel_rfl) (by kernel_rfl) (fun _ _ _ h => h) (by kernel_rfl) 22 _ rfl Try.underlying22 ?_
    refine seq_bin 21 57 (.int .i64 0) (.int .i64 (0 : Nat)) (.int .i64 (0 : Nat)) .add 3 3 (.tmp 54) (.tmp 56) (by kernel_rfl) (by kernel_rfl) (by kernel_rfl) (by kernel_rfl) (by kernel_rfl) (fun _ _ _ h => h) (by kernel_rfl) (by kernel_rfl) ?_ ?_
    · intro w'; go_simp; rfl
    refine seq_bin 22 58 (.bool false) (.int .i64 0) (.int .i64 0) .gtr 3 3 (.tmp 57) (.const (.int .i64 0)) (by kernel_rfl) (by kernel_rfl) (by kernel_rfl) (by kernel_rfl) (by kernel_rfl) (fun _ _ _ h => h) (by kernel_rfl) (by kernel_rfl) ?_ ?_
    · intro w'; go_simp
    refine seq_pick 23 59 (.bool false) (.tmp 52) (.tmp 58) (.const (.bool false)) true (by kernel_rfl) (by kernel_rfl) (by kernel_rfl) (by kernel_rfl) (by kernel_rfl) (fun _ _ _ h => h) (by kernel_rfl) (by kernel_rfl) ?_
    refine seq_pick 24 60 (.bool false) (.tmp 49) (.const (.bool true)) (.tmp 59) false (by kernel_rfl) (by kernel_rfl) (by kernel_rfl) (by kernel_rfl) (by kernel_rfl) (fun _ _ _ h => h) (by kernel_rfl) (by kernel_rfl) ?_
    refine seq_done (by kernel_rfl) (by simp only [put_lit, List.set_cons_succ, List.set_cons_zero]; rfl) ?_ _
    have hF : F ≠ 0 := fun h => hE (F3.out h).1
    have hF1 : (F == 0) = false := by simpa using hF
    obtain ⟨rfl, rfl⟩ := F4.out hF
    obtain rfl : nl = 0 := Nl4.out.1.symm
    obtain rfl : ns = 0 := Os4.out.1.symm
    go_wp2_with fail
    refine seq_start (by kernel_rfl) ?_
    refine seq_move 0 61 (.int .i64 F) (.tmp 9) (by kernel_rfl) (by kernel_rfl) (by kernel_rfl) (by kernel_rfl) (by kernel_rfl) (fun _ _ _ h => h) (by kernel_rfl) ?_
    refine seq_bin 1 62 (.bool false) (.int .i64 F) (.int .i64 0) .eql 25 25 (.tmp 61) (.const (.int .i64 0)) (by kernel_rfl) (by kernel_rfl) (by kernel_rfl) (by kernel_rfl) (by kernel_rfl) (fun _ _ _ h => h) (by kernel_rfl) (by kernel_rfl) ?_ ?_
    · intro w'; go_simp
    refine seq_move 2 63 (.bool false) (.tmp 62) (by kernel_rfl) (by kernel_rfl) (by kernel_rfl) (by kernel_rfl) (by kernel_rfl) (fun _ _ _ h => h) (by kernel_rfl) ?_
    refine seq_skip 3 64 (by kernel_rfl) (by kernel_rfl) (by kernel_rfl) (by kernel_rfl) (by kernel_rfl) (fun _ _ _ h => h) ?_
    refine seq_skip 4 65 (by kernel_rfl) (by kernel_rfl) (by kernel_rfl) (by kernel_rfl) (by kernel_rfl) (fun _ _ _ h => h) ?_
    refine seq_skip 5 66 (by kernel_rfl) (by kernel_rfl) (by kernel_rfl) (by kernel_rfl) (by kernel_rfl) (fun _ _ _ h => h) ?_
    refine seq_skip 6 67 (by kernel_rfl) (by kernel_rfl) (by kernel_rfl) (by kernel_rfl) (by kernel_rfl) (fun _ _ _ h => h) ?_
    refine seq_skip 9 70 (by kernel_rfl) (by kernel_rfl) (by kernel_rfl) (by kernel_rfl) (by kernel_rfl) (fun _ _ _ h => h) ?_
    refine seq_skip 10 71 (by kernel_rfl) (by kernel_rfl) (by kernel_rfl) (by kernel_rfl) (by kernel_rfl) (fun _ _ _ h => h) ?_
    refine seq_skip 12 73 (by kernel_rfl) (by kernel_rfl) (by kernel_rfl) (by kernel_rfl) (by kernel_rfl) (fun _ _ _ h => h) ?_
    refine seq_skip 13 74 (by kernel_rfl) (by kernel_rfl) (by kernel_rfl) (by kernel_rfl) (by kernel_rfl) (fun _ _ _ h => h) ?_
    refine seq_skip1 7 68 (by kernel_rfl) (by kernel_rfl) (by kernel_rfl) ?_
    refine seq_skip 8 69 (by kernel_rfl) (by kernel_rfl) (by kernel_rfl) (by kernel_rfl) (by kernel_rfl) (fun _ _ _ h => h) ?_
    refine seq_skip 11 72 (by kernel_rfl) (by kernel_rfl) (by kernel_rfl) (by kernel_rfl) (by kernel_rfl) (fun _ _ _ h => h) ?_
    refine seq_skip 14 75 (by kernel_rfl) (by kernel_rfl) (by kernel_rfl) (by kernel_rfl) (by kernel_rfl) (fun _ _ _ h => h) ?_
    refine seq_skip 15 76 (by kernel_rfl) (by kernel_rfl) (by kernel_rfl) (by kernel_rfl) (by kernel_rfl) (fun _ _ _ h => h) ?_
    refine seq_pick 16 77 (.bool false) (.tmp 63) (.tmp 76) (.const (.bool false)) false (by kernel_rfl) (by kernel_rfl) (by kernel_rfl) (by kernel_rfl) (by kernel_rfl) (fun _ _ _ h => h) (by kernel_rfl) (by kernel_rfl) ?_
    refine seq_move 17 78 (.bool false) (.tmp 77) (by kernel_rfl) (by kernel_rfl) (by kernel_rfl) (by kernel_rfl) (by kernel_rfl) (fun _ _ _ h => h) (by kernel_rfl) ?_
    refine seq_move 18 79 (.int .i64 F) (.tmp 9) (by kernel_rfl) (by kernel_rfl) (by kernel_rfl) (by kernel_rfl) (by kernel_rfl) (fun _ _ _ h => h) (by kernel_rfl) ?_
    refine seq_bin 19 80 (.bool true) (.int .i64 F) (.int .i64 0) .neq 25 25 (.tmp 79) (.const (.int .i64 0)) (by kernel_rfl) (by kernel_rfl) (by kernel_rfl) (by kernel_rfl) (by kernel_rfl) (fun _ _ _ h => h) (by kernel_rfl) (by kernel_rfl) ?_ ?_
    · intro w'; go_simp
    refine seq_move 20 81 (.bool true) (.tmp 80) (by kernel_rfl) (by kernel_rfl) (by kernel_rfl) (by kernel_rfl) (by kernel_rfl) (fun _ _ _ h => h) (by kernel_rfl) ?_
    refine seq_move 21 82 (.slice Al 0 cl) (.tmp 7) (by kernel_rfl) (by kernel_rfl) (by kernel_rfl) (by kernel_rfl) (by kernel_rfl) (fun _ _ _ h => h) (by kernel_rfl) ?_
    refine seq_len 22 83 Al 0 cl (.tmp 82) #[23] (by kernel_rfl) (by kernel_rfl) (by kernel_rfl) (by kernel_rfl) (by kernel_rfl) (fun _ _ _ h => h) (by kernel_rfl) 23 _ rfl Try.underlying23 ?_
    refine seq_move 23 84 (.slice As 0 cs) (.tmp 8) (by kernel_rfl) (by kernel_rfl) (by kernel_rfl) (by kernel_rfl) (by kernel_rfl) (fun _ _ _ h => h) (by kernel_rfl) ?_
    refine seq_len 24 85 As 0 cs (.tmp 84) #[22] (by kernel_rfl) (by kernel_rfl) (by kernel_rfl) (by kernel_rfl) (by kernel_rfl) (fun _ _ _ h => h) (by kernel_rfl) 22 _ rfl Try.underlying22 ?_
    refine seq_bin 25 86 (.int .i64 0) (.int .i64 (0 : Nat)) (.int .i64 (0 : Nat)) .add 3 3 (.tmp 83) (.tmp 85) (by kernel_rfl) (by kernel_rfl) (by kernel_rfl) (by kernel_rfl) (by kernel_rfl) (fun _ _ _ h => h) (by kernel_rfl) (by kernel_rfl) ?_ ?_
    · intro w'; go_simp; rfl
    refine seq_bin 26 87 (.bool false) (.int .i64 0) (.int .i64 0) .gtr 3 3 (.tmp 86) (.const (.int .i64 0)) (by kernel_rfl) (by kernel_rfl) (by kernel_rfl) (by kernel_rfl) (by kernel_rfl) (fun _ _ _ h => h) (by kernel_rfl) (by kernel_rfl) ?_ ?_
    · intro w'; go_simp
    refine seq_pick 27 88 (.bool false) (.tmp 81) (.tmp 87) (.const (.bool false)) true (by kernel_rfl) (by kernel_rfl) (by kernel_rfl) (by kernel_rfl) (by kernel_rfl) (fun _ _ _ h => h) (by kernel_rfl) (by kernel_rfl) ?_
    refine seq_pick 28 89 (.bool false) (.tmp 78) (.const (.bool true)) (.tmp 88) false (by kernel_rfl) (by kernel_rfl) (by kernel_rfl) (by kernel_rfl) (by kernel_rfl) (fun _ _ _ h => h) (by kernel_rfl) (by kernel_rfl) ?_
    refine seq_done (by kernel_rfl) (by simp only [put_lit, List.set_cons_succ, List.set_cons_zero]; rfl) ?_ _
    by_cases hG : G = 0
    · subst hG
      have FB := Lib.hid (F5.out rfl)
      obtain ⟨sm3, em3⟩ : ∃ sm, strOfNums (flagOct X) = sm := ⟨_, rfl⟩
      obtain ⟨sr3, er3⟩ : ∃ sr, strOfNums T = sr := ⟨_, rfl⟩
      have eb3 : strOfNums xs = sm3 ++ sr3 := by rw [← em3, ← er3, str_app, FB.out]
      have z3 : ¬ 9223372036854775807 < sm3.size + sr3.size := app_small em3 er3 FB.out (by rw [l0.out]; omega)
      go_wp2_with fail
      have c10_0 := Lib.hid (conv_keep (c := ct) Ot4.out u4.size ((((Below.refl w4.heap.size w4)).drew).drew).drew er3)
      have c10_1 := Lib.hid (conv_keep (c := cap0) O04.out u4.size ((((Below.refl w4.heap.size w4)).drew).drew).drew eb3)
      refine seq_start (by kernel_rfl) ?_
      refine seq_move 0 90 (.bool true) (.tmp 3) (by kernel_rfl) (by kernel_rfl) (by kernel_rfl) (by kernel_rfl) (by kernel_rfl) (fun _ _ _ h => h) (by kernel_rfl) ?_
      refine seq_move 1 91 (.bool true) (.tmp 90) (by kernel_rfl) (by kernel_rfl) (by kernel_rfl) (by kernel_rfl) (by kernel_rfl) (fun _ _ _ h => h) (by kernel_rfl) ?_
      refine seq_move 2 92 (.int .i64 0) (.tmp 12) (by kernel_rfl) (by kernel_rfl) (by kernel_rfl) (by kernel_rfl) (by kernel_rfl) (fun _ _ _ h => h) (by kernel_rfl) ?_
      refine seq_bin 3 93 (.bool false) (.int .i64 0) (.int .i64 0) .neq 25 25 (.tmp 92) (.const (.int .i64 0)) (by kernel_rfl) (by kernel_rfl) (by kernel_rfl) (by kernel_rfl) (by kernel_rfl) (fun _ _ _ h => h) (by kernel_rfl) (by kernel_rfl) ?_ ?_
      · intro w'; go_simp
      refine seq_move 4 94 (.bool false) (.tmp 93) (by kernel_rfl) (by kernel_rfl) (by kernel_rfl) (by kernel_rfl) (by kernel_rfl) (fun _ _ _ h => h) (by kernel_rfl) ?_
      refine seq_move 5 95 (.bool X) (.tmp 10) (by kernel_rfl) (by kernel_rfl) (by kernel_rfl) (by kernel_rfl) (by kernel_rfl) (fun _ _ _ h => h) (by kernel_rfl) ?_
      refine seq_move 8 98 (.slice At nt ct) (.tmp 11) (by kernel_rfl) (by kernel_rfl) (by kernel_rfl) (by kernel_rfl) (by kernel_rfl) (fun _ _ _ h => h) (by kernel_rfl) ?_
      refine seq_convert 9 99 (.string sr3) (.slice At nt ct) 22 9 (.tmp 98) (by kernel_rfl) (by kernel_rfl) (by kernel_rfl) (by kernel_rfl) (by kernel_rfl) (fun _ _ _ h => h) (by kernel_rfl) c10_0.out ?_
      refine seq_move 11 101 (.slice a0 len0 cap0) (.tmp 0) (by kernel_rfl) (by kernel_rfl) (by kernel_rfl) (by kernel_rfl) (by kernel_rfl) (fun _ _ _ h => h) (by kernel_rfl) ?_
      refine seq_convert 12 102 (.string (sm3 ++ sr3)) (.slice a0 len0 cap0) 22 9 (.tmp 101) (by kernel_rfl) (by kernel_rfl) (by kernel_rfl) (by kernel_rfl) (by kernel_rfl) (fun _ _ _ h => h) (by kernel_rfl) c10_1.out ?_
      refine seq_call 6 96 25 #[.const (.slice none 0 0), .tmp 95] #[22, 4] #[.slice none 0 0, .bool X] (by kernel_rfl) (by kernel_rfl) (by kernel_rfl) (by kernel_rfl) (by kernel_rfl) ?_
      refine (putFlag_any none 0 0 0 [] X w4.drew.drew.drew (Oct.nil _ _ _) (Nat.zero_le _) (Nat.zero_le _)).mono ?_
      rw [List.nil_append]
      rintro e x10 ⟨A10, n10, d10, rfl, _, _, hO10, hb10⟩
      refine ⟨_, rfl, hb10, ?_⟩
      have q10 : Below w4.heap.size w4 x10 := ((((Below.refl w4.heap.size w4)).drew).drew).drew.trans (hb10.mono ((((Below.refl w4.heap.size w4)).drew).drew).drew.size)
      have e10 := Lib.hid (conv_keep (c := d10) hO10 (Nat.le_refl _) (Below.refl _ _) em3)
      clear hO10
      refine seq_convert 7 97 (.string sm3) (.slice A10 n10 d10) 22 9 (.tmp 96) (by kernel_rfl) (by kernel_rfl) (by kernel_rfl) (by kernel_rfl) (by kernel_rfl) (fun _ _ _ h => h) (by kernel_rfl) e10.out ?_
      refine seq_bin 10 100 (.string (sm3 ++ sr3)) (.string sm3) (.string sr3) .add 9 9 (.tmp 97) (.tmp 99) (by kernel_rfl) (by kernel_rfl) (by kernel_rfl) (by kernel_rfl) (by kernel_rfl) (fun _ _ _ h => h) (by kernel_rfl) (by kernel_rfl) ?_ ?_
      · intro w'; go_simp
      refine seq_bin 13 103 (.bool true) (.string (sm3 ++ sr3)) (.string (sm3 ++ sr3)) .eql 9 9 (.tmp 100) (.tmp 102) (by kernel_rfl) (by kernel_rfl) (by kernel_rfl) (by kernel_rfl) (by kernel_rfl) (fun _ _ _ h => h) (by kernel_rfl) (by kernel_rfl) ?_ ?_
      · intro w'; go_simp
      refine seq_pick 14 104 (.bool true) (.tmp 94) (.const (.bool true)) (.tmp 103) false (by kernel_rfl) (by kernel_rfl) (by kernel_rfl) (by kernel_rfl) (by kernel_rfl) (fun _ _ _ h => h) (by kernel_rfl) (by kernel_rfl) ?_
      refine seq_pick 15 105 (.bool true) (.tmp 91) (.tmp 104) (.const (.bool false)) true (by kernel_rfl) (by kernel_rfl) (by kernel_rfl) (by kernel_rfl) (by kernel_rfl) (fun _ _ _ h => h) (by kernel_rfl) (by kernel_rfl) ?_
      refine seq_move 16 106 (.bool true) (.tmp 105) (by kernel_rfl) (by kernel_rfl) (by kernel_rfl) (by kernel_rfl) (by kernel_rfl) (fun _ _ _ h => h) (by kernel_rfl) ?_
      refine seq_move 17 107 (.int .i64 0) (.tmp 12) (by kernel_rfl) (by kernel_rfl) (by kernel_rfl) (by kernel_rfl) (by kernel_rfl) (fun _ _ _ h => h) (by kernel_rfl) ?_
      refine seq_bin 18 108 (.bool true) (.int .i64 0) (.int .i64 0) .eql 25 25 (.tmp 107) (.const (.int .i64 0)) (by kernel_rfl) (by kernel_rfl) (by kernel_rfl) (by kernel_rfl) (by kernel_rfl) (fun _ _ _ h => h) (by kernel_rfl) (by kernel_rfl) ?_ ?_
      · intro w'; go_simp
      refine seq_move 19 109 (.bool true) (.tmp 108) (by kernel_rfl) (by kernel_rfl) (by kernel_rfl) (by kernel_rfl) (by kernel_rfl) (fun _ _ _ h => h) (by kernel_rfl) ?_
      refine seq_skip 20 110 (by kernel_rfl) (by kernel_rfl) (by kernel_rfl) (by kernel_rfl) (by kernel_rfl) (fun _ _ _ h => h) ?_
      refine seq_skip 21 111 (by kernel_rfl) (by kernel_rfl) (by kernel_rfl) (by kernel_rfl) (by kernel_rfl) (fun _ _ _ h => h) ?_
      refine seq_skip 22 112 (by kernel_rfl) (by kernel_rfl) (by kernel_rfl) (by kernel_rfl) (by kernel_rfl) (fun _ _ _ h => h) ?_
      refine seq_skip 23 113 (by kernel_rfl) (by kernel_rfl) (by kernel_rfl) (by kernel_rfl) (by kernel_rfl) (fun _ _ _ h => h) ?_
      refine seq_skip 24 114 (by kernel_rfl) (by kernel_rfl) (by kernel_rfl) (by kernel_rfl) (by kernel_rfl) (fun _ _ _ h => h) ?_
      refine seq_skip 25 115 (by kernel_rfl) (by kernel_rfl) (by kernel_rfl) (by kernel_rfl) (by kernel_rfl) (fun _ _ _ h => h) ?_
      refine seq_skip 26 116 (by kernel_rfl) (by kernel_rfl) (by kernel_rfl) (by kernel_rfl) (by kernel_rfl) (fun _ _ _ h => h) ?_
      refine seq_pick 27 117 (.bool true) (.tmp 109) (.const (.bool true)) (.tmp 116) true (by kernel_rfl) (by kernel_rfl) (by kernel_rfl) (by kernel_rfl) (by kernel_rfl) (fun _ _ _ h => h) (by kernel_rfl) (by kernel_rfl) ?_
      refine seq_pick 28 118 (.bool true) (.tmp 106) (.tmp 117) (.const (.bool false)) true (by kernel_rfl) (by kernel_rfl) (by kernel_rfl) (by kernel_rfl) (by kernel_rfl) (fun _ _ _ h => h) (by kernel_rfl) (by kernel_rfl) ?_
      refine seq_assign 29 2 (.bool true) (.tmp 118) (by kernel_rfl) (by kernel_rfl) (by kernel_rfl) (by kernel_rfl) (by kernel_rfl) (fun _ _ _ h => h) (by kernel_rfl) ?_
      refine seq_done (by kernel_rfl) (by simp only [put_lit, List.set_cons_succ, List.set_cons_zero]; rfl) ?_ _
      go_wp2
      go_ret
      exact ⟨by kernel_rfl, u4.trans ((q10).mono u4.size)⟩
    · have hG1 : (G == 0) = false := by simpa using hG
      obtain ⟨rfl, rfl⟩ := F6.out hG
      obtain rfl : nt = 0 := Ot4.out.1.symm
      go_wp2_with fail
      refine seq_start (by kernel_rfl) ?_
      refine seq_move 0 90 (.bool true) (.tmp 3) (by kernel_rfl) (by kernel_rfl) (by kernel_rfl) (by kernel_rfl) (by kernel_rfl) (fun _ _ _ h => h) (by kernel_rfl) ?_
      refine seq_move 1 91 (.bool true) (.tmp 90) (by kernel_rfl) (by kernel_rfl) (by kernel_rfl) (by kernel_rfl) (by kernel_rfl) (fun _ _ _ h => h) (by kernel_rfl) ?_
      refine seq_move 2 92 (.int .i64 G) (.tmp 12) (by kernel_rfl) (by kernel_rfl) (by kernel_rfl) (by kernel_rfl) (by kernel_rfl) (fun _ _ _ h => h) (by kernel_rfl) ?_
      refine seq_bin 3 93 (.bool true) (.int .i64 G) (.int .i64 0) .neq 25 25 (.tmp 92) (.const (.int .i64 0)) (by kernel_rfl) (by kernel_rfl) (by kernel_rfl) (by kernel_rfl) (by kernel_rfl) (fun _ _ _ h => h) (by kernel_rfl) (by kernel_rfl) ?_ ?_
      · intro w'; go_simp
      refine seq_move 4 94 (.bool true) (.tmp 93) (by kernel_rfl) (by kernel_rfl) (by kernel_rfl) (by kernel_rfl) (by kernel_rfl) (fun _ _ _ h => h) (by kernel_rfl) ?_
      refine seq_skip 5 95 (by kernel_rfl) (by kernel_rfl) (by kernel_rfl) (by kernel_rfl) (by kernel_rfl) (fun _ _ _ h => h) ?_
      refine seq_skip 8 98 (by kernel_rfl) (by kernel_rfl) (by kernel_rfl) (by kernel_rfl) (by kernel_rfl) (fun _ _ _ h => h) ?_
      refine seq_skip 9 99 (by kernel_rfl) (by kernel_rfl) (by kernel_rfl) (by kernel_rfl) (by kernel_rfl) (fun _ _ _ h => h) ?_
      refine seq_skip 11 101 (by kernel_rfl) (by kernel_rfl) (by kernel_rfl) (by kernel_rfl) (by kernel_rfl) (fun _ _ _ h => h) ?_
      refine seq_skip 12 102 (by kernel_rfl) (by kernel_rfl) (by kernel_rfl) (by kernel_rfl) (by kernel_rfl) (fun _ _ _ h => h) ?_
      refine seq_skip1 6 96 (by kernel_rfl) (by kernel_rfl) (by kernel_rfl) ?_
      refine seq_skip 7 97 (by kernel_rfl) (by kernel_rfl) (by kernel_rfl) (by kernel_rfl) (by kernel_rfl) (fun _ _ _ h => h) ?_
      refine seq_skip 10 100 (by kernel_rfl) (by kernel_rfl) (by kernel_rfl) (by kernel_rfl) (by kernel_rfl) (fun _ _ _ h => h) ?_
      refine seq_skip 13 103 (by kernel_rfl) (by kernel_rfl) (by kernel_rfl) (by kernel_rfl) (by kernel_rfl) (fun _ _ _ h => h) ?_
      refine seq_pick 14 104 (.bool true) (.tmp 94) (.const (.bool true)) (.tmp 103) true (by kernel_rfl) (by kernel_rfl) (by kernel_rfl) (by kernel_rfl) (by kernel_rfl) (fun _ _ _ h => h) (by kernel_rfl) (by kernel_rfl) ?_
      refine seq_pick 15 105 (.bool true) (.tmp 91) (.tmp 104) (.const (.bool false)) true (by kernel_rfl) (by kernel_rfl) (by kernel_rfl) (by kernel_rfl) (by kernel_rfl) (fun _ _ _ h => h) (by kernel_rfl) (by kernel_rfl) ?_
      refine seq_move 16 106 (.bool true) (.tmp 105) (by kernel_rfl) (by kernel_rfl) (by kernel_rfl) (by kernel_rfl) (by kernel_rfl) (fun _ _ _ h => h) (by kernel_rfl) ?_
      refine seq_move 17 107 (.int .i64 G) (.tmp 12) (by kernel_rfl) (by kernel_rfl) (by kernel_rfl) (by kernel_rfl) (by kernel_rfl) (fun _ _ _ h => h) (by kernel_rfl) ?_
      refine seq_bin 18 108 (.bool false) (.int .i64 G) (.int .i64 0) .eql 25 25 (.tmp 107) (.const (.int .i64 0)) (by kernel_rfl) (by kernel_rfl) (by kernel_rfl) (by kernel_rfl) (by kernel_rfl) (fun _ _ _ h => h) (by kernel_rfl) (by kernel_rfl) ?_ ?_
      · intro w'; go_simp
      refine seq_move 19 109 (.bool false) (.tmp 108) (by kernel_rfl) (by kernel_rfl) (by kernel_rfl) (by kernel_rfl) (by kernel_rfl) (fun _ _ _ h => h) (by kernel_rfl) ?_
      refine seq_move 20 110 (.bool false) (.tmp 10) (by kernel_rfl) (by kernel_rfl) (by kernel_rfl) (by kernel_rfl) (by kernel_rfl) (fun _ _ _ h => h) (by kernel_rfl) ?_
      refine seq_un 21 111 (.bool true) (.bool false) .not 4 (.tmp 110) (by kernel_rfl) (by kernel_rfl) (by kernel_rfl) (by kernel_rfl) (by kernel_rfl) (fun _ _ _ h => h) (by kernel_rfl) ?_ ?_
      · intro w'; go_simp
      refine seq_move 22 112 (.bool true) (.tmp 111) (by kernel_rfl) (by kernel_rfl) (by kernel_rfl) (by kernel_rfl) (by kernel_rfl) (fun _ _ _ h => h) (by kernel_rfl) ?_
      refine seq_move 23 113 (.slice At 0 ct) (.tmp 11) (by kernel_rfl) (by kernel_rfl) (by kernel_rfl) (by kernel_rfl) (by kernel_rfl) (fun _ _ _ h => h) (by kernel_rfl) ?_
      refine seq_len 24 114 At 0 ct (.tmp 113) #[22] (by kernel_rfl) (by kernel_rfl) (by kernel_rfl) (by kernel_rfl) (by kernel_rfl) (fun _ _ _ h => h) (by kernel_rfl) 22 _ rfl Try.underlying22 ?_
      refine seq_bin 25 115 (.bool true) (.int .i64 (0 : Nat)) (.int .i64 0) .eql 3 3 (.tmp 114) (.const (.int .i64 0)) (by kernel_rfl) (by kernel_rfl) (by kernel_rfl) (by kernel_rfl) (by kernel_rfl) (fun _ _ _ h => h) (by kernel_rfl) (by kernel_rfl) ?_ ?_
      · intro w'; go_simp
      refine seq_pick 26 116 (.bool true) (.tmp 112) (.tmp 115) (.const (.bool false)) true (by kernel_rfl) (by kernel_rfl) (by kernel_rfl) (by kernel_rfl) (by kernel_rfl) (fun _ _ _ h => h) (by kernel_rfl) (by kernel_rfl) ?_
      refine seq_pick 27 117 (.bool true) (.tmp 109) (.const (.bool true)) (.tmp 116) false (by kernel_rfl) (by kernel_rfl) (by kernel_rfl) (by kernel_rfl) (by kernel_rfl) (fun _ _ _ h => h) (by kernel_rfl) (by kernel_rfl) ?_
      refine seq_pick 28 118 (.bool true) (.tmp 106) (.tmp 117) (.const (.bool false)) true (by kernel_rfl) (by kernel_rfl) (by kernel_rfl) (by kernel_rfl) (by kernel_rfl) (fun _ _ _ h => h) (by kernel_rfl) (by kernel_rfl) ?_
      refine seq_assign 29 2 (.bool true) (.tmp 118) (by kernel_rfl) (by kernel_rfl) (by kernel_rfl) (by kernel_rfl) (by kernel_rfl) (fun _ _ _ h => h) (by kernel_rfl) ?_
      refine seq_done (by kernel_rfl) (by simp only [put_lit, List.set_cons_succ, List.set_cons_zero]; rfl) ?_ _
      go_wp2
      go_ret
      exact ⟨by kernel_rfl, u4.trans ((((((Below.refl w4.heap.size w4)).drew).drew).drew).mono u4.size)⟩

set_option maxRecDepth 100000 in
theorem lifted (os : Os) (started : os.Started) (H : Type) (enc : TypeId × Value → H) :
    ReturnsInHanded {} Try.checked os 6 .any (Rows.wireOnlySpec.pre6 enc Try.prog Try.f6 Rows.wireOnlyRow.domain false) (Rows.wireOnlySpec.post enc Try.prog Try.f6 false true false false) := by
  refine returnsInHanded_of_change (C := Try.checked) own started (by kernel_rfl) Try.func6
    (ChangeSpec.witness6 (enc := enc) (C := Try.checked) false ⟨#[], #[.slice none 0 0], []⟩ 8 (by kernel_rfl) (by kernel_rfl) (by kernel_rfl) (by kernel_rfl)) ?_
  intro W base args ds gs before hval0 hW hcnd _
  have hval : ∀ (j : Nat) t v, Try.f6.params[j]? = some t → args[j]? = some v → Value.okWide Try.prog W .any base t v := hval0
  have hW' := hW
  obtain ⟨p, q, hA0, hV, rfl, hfz, hnd⟩ := hW
  have hA : DataW.TrodAll enc Try.prog W 0 (fun _ => true) true Try.f6.params.toList args.toList ds p := hA0
  rw [Try.params6] at hA hval
  obtain ⟨v0, vs0, d0, ds0, p0, q0, hargs, rfl, rfl, h0, r0⟩ := trodAll_cons hA
  obtain ⟨rfl, rfl, rfl⟩ := trodAll_nil r0
  obtain rfl : args = #[v0] := by cases args; simp_all
  obtain ⟨rfl, rfl⟩ := trodVars_none hV
  obtain ⟨a0, len0, cap0, rfl⟩ := okWide_slice Try.underlying22 (hval 0 22 v0 rfl rfl)
  have k0 := h0
  have lt0 : ∀ x ∈ p0, x.block < W.heap.size := by obtain ⟨m, hm⟩ := k0; exact DataW.trod_lt m _ _ _ hm
  obtain ⟨z0, w0⟩ : ∃ zs, IsRow .u8 W a0 len0 cap0 zs := by
    obtain ⟨fuel, hf⟩ := h0
    rcases open_ints Try.underlying22 Try.underlying5 (by kernel_rfl) hf with ⟨hcs, _⟩ | ⟨x, l, c, zs, hcs, _, hl, hm, hz, _, hcell, hwz⟩
    · simp [Value.cells] at hcs
      obtain ⟨rfl, rfl, rfl⟩ := hcs
      exact ⟨[], .inl ⟨rfl, rfl, rfl, rfl⟩⟩
    · simp [Value.cells] at hcs
      obtain ⟨rfl, rfl, rfl⟩ := hcs
      exact ⟨zs, .inr ⟨_, rfl, hl, hm, by simpa using hz, hcell, hwz⟩⟩
  clear hA0 hval0
  refine (walk a0 len0 cap0 z0 W w0).mono fun e W' ⟨he, bel⟩ => ?_
  subst he
  exact ⟨_, rfl, _, _, _, [], _, [], hW', trodAll_mk1 (shut_bool Try.underlying4 _), (trodAll_cons_mk (Below.trod laidOut (by kernel_rfl) (of_decide_eq_true (by kernel_rfl)) k0 bel lt0) trodAll_mk0), rfl, bel.frame _, fun h => by cases h⟩

theorem over : Rows.wireOnlyRow.holds Try.pinned (OpenSpec.ofChange Rows.wireOnlySpec) :=
  OpenClaim.holds_of_wide 6 Try.f6 rfl rfl rfl rfl rfl rfl rfl ⟨rfl, rfl, rfl, rfl, rfl⟩ rfl rfl rfl rfl rfl (by kernel_rfl) Try.func6 (by kernel_rfl)
    (of_decide_eq_true (by kernel_rfl)) (by unfold Func.isWrapper; first | (rw [if_pos (by decide +kernel)]; kernel_rfl) | (rw [if_neg (by decide +kernel)]; exact ⟨rfl, rfl⟩))
    (fun os started H enc _ => lifted os started H enc)

end wireOnly

theorem wireOnly_holds : Rows.WireOnlySaid := wireOnly.over
end Go.Proofs.Ytonlkmepdehdgaa
