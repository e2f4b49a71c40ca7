/-
  For every slice of octets b and every int n the statement VarintIs returns true: the size, what is put, and what is got are what the document's own answer gives; no condition.
-/
import Derived.Test.YtkfbhiidahklnaaRows
import Derived.Test.YtkfbhiidahklnaaSeq
import Derived.WalkKit
import Derived.ProofKit
import Derived.OpenShut
import Derived.ShutString
import Derived.ChangeOld
import Derived.Below
namespace Go.Proofs.Ytkfbhiidahklnaa
namespace varintIs
open Go.ChangeShapes Go.WideShapes Go.ChangeAt Go.RowKit
open Go.ChangeMaps (open_string shut_string)
set_option linter.unusedVariables false

theorem own : ownKnob Try.prog.godebug = none := by kernel_rfl
theorem laidOut : laidOutB Try.prog = true := by kernel_rfl


/-- What Put leaves: a slice that reads as a string, in the world behind it. -/
def Told (w : World) (ys : List Int) (s : ByteArray) (e : Ending) (w' : World) : Prop :=
  ∃ A n c, e = .returned (.slice A n c) ∧ (convert 22 9 (.slice A n c)).run Try.prog w' = .ok (.string s) w' ∧ Hid (Oct w' w'.heap.size A n ys) ∧ Below w.heap.size w w'
/-- What the reference's Put leaves, beside a slice that was there. -/
def Told2 (w : World) (A4 : Option Addr) (n4 c4 : Nat) (s : ByteArray) (e : Ending) (w' : World) : Prop :=
  ∃ A n c, e = .returned (.slice A n c) ∧ (convert 22 9 (.slice A n c)).run Try.prog w' = .ok (.string s) w' ∧ (convert 22 9 (.slice A4 n4 c4)).run Try.prog w' = .ok (.string s) w' ∧ Below w.heap.size w w'

theorem told_put (A : Option Addr) (n c B : Nat) (xs : List Int) (m : Int) (s : ByteArray) (w : World) (hO : Oct w B A n xs) (hB : B ≤ w.heap.size) (hn : n ≤ 70368744177664) (hs : strOfNums (xs ++ octN m) = s) :
    Calls Try.prog 14 #[.slice A n c, .int .i64 m] w (Told w (xs ++ octN m) s) := by
  refine (put_any A n c B xs m w hO hB hn).mono ?_
  rintro e w' ⟨A', n', c', he, hO', hb⟩
  subst hs
  exact ⟨A', n', c', he, hO'.str c', hO', hb⟩
theorem told_rput (A A4 : Option Addr) (n c n4 c4 B : Nat) (xs : List Int) (m : Int) (s : ByteArray) (w : World) (hO : Oct w B A n xs) (h4 : Oct w w.heap.size A4 n4 (xs ++ octN m)) (hB : B ≤ w.heap.size) (hn : n ≤ 100000) (hs : strOfNums (xs ++ octN m) = s) :
    Calls Try.prog 15 #[.slice A n c, .int .i64 m] w (Told2 w A4 n4 c4 s) := by
  refine (rput_any A n c B xs m w hO hB hn).mono ?_
  rintro e w' ⟨A', n', c', he, hO', hb⟩
  subst hs
  exact ⟨A', n', c', he, hO'.str c', (h4.below hb).str c4, hb⟩


set_option maxHeartbeats 1000000 in
theorem walk (a0 : Option Addr) (len0 cap0 : Nat) (z0 : List Int) (a1 : Int) (w : World) (w0 : IsRow .u8 w a0 len0 cap0 z0) (w1 : (Lit.int .i64 a1).wf = true) :
    Calls Try.prog 3 #[.slice a0 len0 cap0, .int .i64 a1] w fun e w' => e = .returned (.bool true) ∧ Below w.heap.size w w' := by
  clear w1
  obtain ⟨hlc, hcm, hO⟩ := oct_of_row w0
  clear w0
  generalize z0.take len0 = xs at hO
  have HO := Lib.hid hO
  clear hO z0
  by_cases hbig : 1000 < len0
  · go_enter Try.func3, Try.ntmps3
    go_wp2_with fail
    refine (awake_any _).mono ?_
    rintro e w1 ⟨rfl, hb⟩
    go_wp2_with fail
    go_ret
    exact ⟨rfl, hb⟩
  · go_enter Try.func3, Try.ntmps3
    go_wp2_with fail
    refine (awake_any _).mono ?_
    rintro e w1 ⟨rfl, hb1⟩
    go_wp2_with fail
    refine (get_any _ _ _ w.heap.size xs _ (HO.out.below hb1) hlc hcm).mono ?_
    rintro e w2 ⟨A2, n2, c2, rfl, hO2, hb2⟩
    have HO2 := Lib.hid hO2
    clear hO2
    have k1 := hb1.size
    have q2 : Below w.heap.size w w2 := hb1.trans (hb2.mono k1)
    go_wp2_with fail
    refine (rget_any _ _ _ w.heap.size xs _ (HO.out.below q2) hlc hcm).mono ?_
    rintro e w3 ⟨A3, n3, c3, rfl, hO3, hb3⟩
    have HO3 := Lib.hid hO3
    clear hO3
    have q3 : Below w.heap.size w w3.drew := (q2.trans (hb3.mono q2.size)).drew
    generalize gotM xs = gm at *
    generalize getE xs = ge at *
    obtain ⟨sr, hsr⟩ : ∃ s, strOfNums (gotR xs) = s := ⟨_, rfl⟩
    obtain ⟨sp, hsp⟩ : ∃ s, strOfNums (xs ++ octN a1) = s := ⟨_, rfl⟩
    have C2 : Hid (∀ w', Below w3.drew.heap.size w3.drew w' → (convert 22 9 (.slice A2 n2 c2)).run Try.prog w' = .ok (.string sr) w') := fun w' hb => by
      rw [← hsr]; exact Oct.str (Oct.below HO2.out (((hb3.mono q2.size).drew).trans (hb.mono q3.size))) c2
    have C3 : Hid (∀ w', Below w3.drew.heap.size w3.drew w' → (convert 22 9 (.slice A3 n3 c3)).run Try.prog w' = .ok (.string sr) w') := fun w' hb => by
      rw [← hsr]; exact Oct.str (Oct.below HO3.out ((Below.refl _ w3).drew.trans (hb.mono q3.size))) c3
    have HB := Lib.hid (HO.out.below q3)
    have SP := Lib.hid hsp
    clear hsr hsp
    go_wp2_with fail
    refine seq_start (by kernel_rfl) ?_
    refine seq_move 0 29 (.bool true) (.tmp 5) (by kernel_rfl) (by kernel_rfl) (by kernel_rfl) (by kernel_rfl) (by kernel_rfl) (fun _ _ _ h => h) (by kernel_rfl) ?_
    refine seq_move 1 30 (.bool true) (.tmp 29) (by kernel_rfl) (by kernel_rfl) (by kernel_rfl) (by kernel_rfl) (by kernel_rfl) (fun _ _ _ h => h) (by kernel_rfl) ?_
    refine seq_move 2 31 (.int .i64 gm) (.tmp 6) (by kernel_rfl) (by kernel_rfl) (by kernel_rfl) (by kernel_rfl) (by kernel_rfl) (fun _ _ _ h => h) (by kernel_rfl) ?_
    refine seq_move 3 32 (.int .i64 gm) (.tmp 9) (by kernel_rfl) (by kernel_rfl) (by kernel_rfl) (by kernel_rfl) (by kernel_rfl) (fun _ _ _ h => h) (by kernel_rfl) ?_
    refine seq_bin 4 33 (.bool true) (.int .i64 gm) (.int .i64 gm) .eql 3 3 (.tmp 31) (.tmp 32) (by kernel_rfl) (by kernel_rfl) (by kernel_rfl) (by kernel_rfl) (by kernel_rfl) (fun _ _ _ h => h) (by kernel_rfl) (by kernel_rfl) ?_ ?_
    · intro w'; go_simp
    refine seq_pick 5 34 (.bool true) (.tmp 30) (.tmp 33) (.const (.bool false)) true (by kernel_rfl) (by kernel_rfl) (by kernel_rfl) (by kernel_rfl) (by kernel_rfl) (fun _ _ _ h => h) (by kernel_rfl) (by kernel_rfl) ?_
    refine seq_move 6 35 (.bool true) (.tmp 34) (by kernel_rfl) (by kernel_rfl) (by kernel_rfl) (by kernel_rfl) (by kernel_rfl) (fun _ _ _ h => h) (by kernel_rfl) ?_
    refine seq_move 7 36 (.int .i64 ge) (.tmp 8) (by kernel_rfl) (by kernel_rfl) (by kernel_rfl) (by kernel_rfl) (by kernel_rfl) (fun _ _ _ h => h) (by kernel_rfl) ?_
    refine seq_move 8 37 (.int .i64 ge) (.tmp 11) (by kernel_rfl) (by kernel_rfl) (by kernel_rfl) (by kernel_rfl) (by kernel_rfl) (fun _ _ _ h => h) (by kernel_rfl) ?_
    refine seq_bin 9 38 (.bool true) (.int .i64 ge) (.int .i64 ge) .eql 24 24 (.tmp 36) (.tmp 37) (by kernel_rfl) (by kernel_rfl) (by kernel_rfl) (by kernel_rfl) (by kernel_rfl) (fun _ _ _ h => h) (by kernel_rfl) (by kernel_rfl) ?_ ?_
    · intro w'; go_simp
    refine seq_pick 10 39 (.bool true) (.tmp 35) (.tmp 38) (.const (.bool false)) true (by kernel_rfl) (by kernel_rfl) (by kernel_rfl) (by kernel_rfl) (by kernel_rfl) (fun _ _ _ h => h) (by kernel_rfl) (by kernel_rfl) ?_
    refine seq_move 11 40 (.bool true) (.tmp 39) (by kernel_rfl) (by kernel_rfl) (by kernel_rfl) (by kernel_rfl) (by kernel_rfl) (fun _ _ _ h => h) (by kernel_rfl) ?_
    refine seq_move 12 41 (.slice A2 n2 c2) (.tmp 7) (by kernel_rfl) (by kernel_rfl) (by kernel_rfl) (by kernel_rfl) (by kernel_rfl) (fun _ _ _ h => h) (by kernel_rfl) ?_
    refine seq_convert 13 42 (.string sr) (.slice A2 n2 c2) 22 9 (.tmp 41) (by kernel_rfl) (by kernel_rfl) (by kernel_rfl) (by kernel_rfl) (by kernel_rfl) (fun _ _ _ h => h) (by kernel_rfl) C2.out ?_
    refine seq_move 14 43 (.slice A3 n3 c3) (.tmp 10) (by kernel_rfl) (by kernel_rfl) (by kernel_rfl) (by kernel_rfl) (by kernel_rfl) (fun _ _ _ h => h) (by kernel_rfl) ?_
    refine seq_convert 15 44 (.string sr) (.slice A3 n3 c3) 22 9 (.tmp 43) (by kernel_rfl) (by kernel_rfl) (by kernel_rfl) (by kernel_rfl) (by kernel_rfl) (fun _ _ _ h => h) (by kernel_rfl) C3.out ?_
    refine seq_bin 16 45 (.bool true) (.string sr) (.string sr) .eql 9 9 (.tmp 42) (.tmp 44) (by kernel_rfl) (by kernel_rfl) (by kernel_rfl) (by kernel_rfl) (by kernel_rfl) (fun _ _ _ h => h) (by kernel_rfl) (by kernel_rfl) ?_ ?_
    · intro w'; go_simp
    refine seq_pick 17 46 (.bool true) (.tmp 40) (.tmp 45) (.const (.bool false)) true (by kernel_rfl) (by kernel_rfl) (by kernel_rfl) (by kernel_rfl) (by kernel_rfl) (fun _ _ _ h => h) (by kernel_rfl) (by kernel_rfl) ?_
    refine seq_move 18 47 (.bool true) (.tmp 46) (by kernel_rfl) (by kernel_rfl) (by kernel_rfl) (by kernel_rfl) (by kernel_rfl) (fun _ _ _ h => h) (by kernel_rfl) ?_
    refine seq_move 19 48 (.int .i64 a1) (.tmp 1) (by kernel_rfl) (by kernel_rfl) (by kernel_rfl) (by kernel_rfl) (by kernel_rfl) (fun _ _ _ h => h) (by kernel_rfl) ?_
    refine seq_move 21 50 (.int .i64 a1) (.tmp 1) (by kernel_rfl) (by kernel_rfl) (by kernel_rfl) (by kernel_rfl) (by kernel_rfl) (fun _ _ _ h => h) (by kernel_rfl) ?_
    refine seq_call 20 49 12 #[.tmp 48] #[3] #[.int .i64 a1] (by kernel_rfl) (by kernel_rfl) (by kernel_rfl) (by kernel_rfl) (by kernel_rfl) ?_
    refine (size_any a1 _).mono ?_
    rintro e w' ⟨rfl, rfl⟩
    refine ⟨_, rfl, Below.refl _ _, ?_⟩
    refine seq_call 22 51 13 #[.tmp 50] #[3] #[.int .i64 a1] (by kernel_rfl) (by kernel_rfl) (by kernel_rfl) (by kernel_rfl) (by kernel_rfl) ?_
    refine (rsize_any a1 _).mono ?_
    rintro e w' ⟨rfl, rfl⟩
    refine ⟨_, rfl, Below.refl _ _, ?_⟩
    refine seq_bin 23 52 (.bool true) (.int .i64 (sizeN a1)) (.int .i64 (sizeN a1)) .eql 3 3 (.tmp 49) (.tmp 51) (by kernel_rfl) (by kernel_rfl) (by kernel_rfl) (by kernel_rfl) (by kernel_rfl) (fun _ _ _ h => h) (by kernel_rfl) (by kernel_rfl) ?_ ?_
    · intro w'; go_simp
    refine seq_pick 24 53 (.bool true) (.tmp 47) (.tmp 52) (.const (.bool false)) true (by kernel_rfl) (by kernel_rfl) (by kernel_rfl) (by kernel_rfl) (by kernel_rfl) (fun _ _ _ h => h) (by kernel_rfl) (by kernel_rfl) ?_
    refine seq_move 25 54 (.bool true) (.tmp 53) (by kernel_rfl) (by kernel_rfl) (by kernel_rfl) (by kernel_rfl) (by kernel_rfl) (fun _ _ _ h => h) (by kernel_rfl) ?_
    refine seq_move 26 55 (.slice a0 len0 cap0) (.tmp 0) (by kernel_rfl) (by kernel_rfl) (by kernel_rfl) (by kernel_rfl) (by kernel_rfl) (fun _ _ _ h => h) (by kernel_rfl) ?_
    refine seq_move 27 56 (.int .i64 a1) (.tmp 1) (by kernel_rfl) (by kernel_rfl) (by kernel_rfl) (by kernel_rfl) (by kernel_rfl) (fun _ _ _ h => h) (by kernel_rfl) ?_
    refine seq_move 30 59 (.slice a0 len0 cap0) (.tmp 0) (by kernel_rfl) (by kernel_rfl) (by kernel_rfl) (by kernel_rfl) (by kernel_rfl) (fun _ _ _ h => h) (by kernel_rfl) ?_
    refine seq_move 31 60 (.int .i64 a1) (.tmp 1) (by kernel_rfl) (by kernel_rfl) (by kernel_rfl) (by kernel_rfl) (by kernel_rfl) (fun _ _ _ h => h) (by kernel_rfl) ?_
    refine seq_call 28 57 14 #[.tmp 55, .tmp 56] #[22, 3] #[.slice a0 len0 cap0, .int .i64 a1] (by kernel_rfl) (by kernel_rfl) (by kernel_rfl) (by kernel_rfl) (by kernel_rfl) ?_
    refine (put_any a0 len0 cap0 w.heap.size xs a1 _ HB.out q3.size (by omega)).mono ?_
    rintro e w4 ⟨A4, n4, c4, rfl, hO4, hb4⟩
    have q4 : Below w.heap.size w w4 := q3.trans (hb4.mono q3.size)
    refine ⟨_, rfl, hb4, ?_⟩
    have C4 : Hid (∀ w', Below w4.heap.size w4 w' → (convert 22 9 (.slice A4 n4 c4)).run Try.prog w' = .ok (.string sp) w') := fun w' hb => by
      rw [← SP.out]; exact Oct.str (Oct.below hO4 hb) c4
    refine seq_convert 29 58 (.string sp) (.slice A4 n4 c4) 22 9 (.tmp 57) (by kernel_rfl) (by kernel_rfl) (by kernel_rfl) (by kernel_rfl) (by kernel_rfl) (fun _ _ _ h => h) (by kernel_rfl) C4.out ?_
    refine seq_call 32 61 15 #[.tmp 59, .tmp 60] #[22, 3] #[.slice a0 len0 cap0, .int .i64 a1] (by kernel_rfl) (by kernel_rfl) (by kernel_rfl) (by kernel_rfl) (by kernel_rfl) ?_
    refine (rput_any a0 len0 cap0 w.heap.size xs a1 _ (HO.out.below q4) q4.size (by omega)).mono ?_
    rintro e w5 ⟨A5, n5, c5, rfl, hO5, hb5⟩
    have q5 : Below w.heap.size w w5 := q4.trans (hb5.mono q4.size)
    refine ⟨_, rfl, hb5, ?_⟩
    have C5 : Hid (∀ w', Below w5.heap.size w5 w' → (convert 22 9 (.slice A5 n5 c5)).run Try.prog w' = .ok (.string sp) w') := fun w' hb => by
      rw [← SP.out]; exact Oct.str (Oct.below hO5 hb) c5
    refine seq_convert 33 62 (.string sp) (.slice A5 n5 c5) 22 9 (.tmp 61) (by kernel_rfl) (by kernel_rfl) (by kernel_rfl) (by kernel_rfl) (by kernel_rfl) (fun _ _ _ h => h) (by kernel_rfl) C5.out ?_
    refine seq_bin 34 63 (.bool true) (.string sp) (.string sp) .eql 9 9 (.tmp 58) (.tmp 62) (by kernel_rfl) (by kernel_rfl) (by kernel_rfl) (by kernel_rfl) (by kernel_rfl) (fun _ _ _ h => h) (by kernel_rfl) (by kernel_rfl) ?_ ?_
    · intro w'; go_simp
    refine seq_pick 35 64 (.bool true) (.tmp 54) (.tmp 63) (.const (.bool false)) true (by kernel_rfl) (by kernel_rfl) (by kernel_rfl) (by kernel_rfl) (by kernel_rfl) (fun _ _ _ h => h) (by kernel_rfl) (by kernel_rfl) ?_
    refine seq_assign 36 4 (.bool true) (.tmp 64) (by kernel_rfl) (by kernel_rfl) (by kernel_rfl) (by kernel_rfl) (by kernel_rfl) (fun _ _ _ h => h) (by kernel_rfl) ?_
    refine wpAnyH_done (by kernel_rfl) ?_ _
    go_wp2
    go_ret
    exact ⟨by kernel_rfl, q5⟩

set_option maxRecDepth 100000 in
theorem lifted (os : Os) (started : os.Started) (H : Type) (enc : TypeId × Value → H) :
    ReturnsInHanded {} Try.checked os 3 .any (Rows.varintIsSpec.pre6 enc Try.prog Try.f3 Rows.varintIsRow.domain false) (Rows.varintIsSpec.post enc Try.prog Try.f3 false true false false) := by
  refine returnsInHanded_of_change (C := Try.checked) own started (by kernel_rfl) Try.func3
    (ChangeSpec.witness6 (enc := enc) (C := Try.checked) false ⟨#[], #[.slice none 0 0, .int .i64 0], []⟩ 8 (by kernel_rfl) (by kernel_rfl) (by kernel_rfl) (by kernel_rfl)) ?_
  intro W base args ds gs before hval0 hW hcnd _
  have hval : ∀ (j : Nat) t v, Try.f3.params[j]? = some t → args[j]? = some v → Value.okWide Try.prog W .any base t v := hval0
  have hW' := hW
  obtain ⟨p, q, hA0, hV, rfl, hfz, hnd⟩ := hW
  have hA : DataW.TrodAll enc Try.prog W 0 (fun _ => true) true Try.f3.params.toList args.toList ds p := hA0
  rw [Try.params3] at hA hval
  obtain ⟨v0, vs0, d0, ds0, p0, q0, hargs, rfl, rfl, h0, r0⟩ := trodAll_cons hA
  obtain ⟨v1, vs1, d1, ds1, p1, q1, rfl, rfl, rfl, h1, r1⟩ := trodAll_cons r0
  obtain ⟨rfl, rfl, rfl⟩ := trodAll_nil r1
  obtain rfl : args = #[v0, v1] := by cases args; simp_all
  obtain ⟨rfl, rfl⟩ := trodVars_none hV
  obtain ⟨a0, len0, cap0, rfl⟩ := okWide_slice Try.underlying22 (hval 0 22 v0 rfl rfl)
  have k0 := h0
  have lt0 : ∀ x ∈ p0, x.block < W.heap.size := by obtain ⟨m, hm⟩ := k0; exact DataW.trod_lt m _ _ _ hm
  obtain ⟨z0, w0⟩ : ∃ zs, IsRow .u8 W a0 len0 cap0 zs := by
    obtain ⟨fuel, hf⟩ := h0
    rcases open_ints Try.underlying22 Try.underlying5 (by kernel_rfl) hf with ⟨hcs, _⟩ | ⟨x, l, c, zs, hcs, _, hl, hm, hz, _, hcell, hwz⟩
    · simp [Value.cells] at hcs
      obtain ⟨rfl, rfl, rfl⟩ := hcs
      exact ⟨[], .inl ⟨rfl, rfl, rfl, rfl⟩⟩
    · simp [Value.cells] at hcs
      obtain ⟨rfl, rfl, rfl⟩ := hcs
      exact ⟨zs, .inr ⟨_, rfl, hl, hm, by simpa using hz, hcell, hwz⟩⟩
  obtain ⟨a1, rfl, rfl, rfl, w1⟩ := open_int Try.underlying3 (hval 1 3 v1 rfl rfl) h1
  clear hA0 hval0
  refine (walk a0 len0 cap0 z0 a1 W w0 w1).mono fun e W' ⟨he, bel⟩ => ?_
  subst he
  exact ⟨_, rfl, _, _, _, [], _, [], hW', trodAll_mk1 (shut_bool Try.underlying4 _), (trodAll_cons_mk (Below.trod laidOut (by kernel_rfl) (of_decide_eq_true (by kernel_rfl)) k0 bel lt0) (trodAll_cons_mk (shut_int Try.underlying3 w1) trodAll_mk0)), rfl, bel.frame _, fun h => by cases h⟩

theorem over : Rows.varintIsRow.holds Try.pinned (OpenSpec.ofChange Rows.varintIsSpec) :=
  OpenClaim.holds_of_wide 3 Try.f3 rfl rfl rfl rfl rfl rfl rfl ⟨rfl, rfl, rfl, rfl, rfl⟩ rfl rfl rfl rfl rfl (by kernel_rfl) Try.func3 (by kernel_rfl)
    (of_decide_eq_true (by kernel_rfl)) (by unfold Func.isWrapper; first | (rw [if_pos (by decide +kernel)]; kernel_rfl) | (rw [if_neg (by decide +kernel)]; exact ⟨rfl, rfl⟩))
    (fun os started H enc _ => lifted os started H enc)

end varintIs

theorem varintIs_holds : Rows.VarintIsSaid := varintIs.over
end Go.Proofs.Ytkfbhiidahklnaa
