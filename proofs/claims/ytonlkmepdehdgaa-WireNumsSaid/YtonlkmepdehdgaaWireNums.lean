/-
  For all ints n, m and k the statement WireNums returns true: as many octets as are asked for are the last ones of four, got again they are the number without what is above, and the octets of two numbers below 2^32 are in the numbers' order; no condition.
-/
import Derived.Test.YtonlkmepdehdgaaRows
import Derived.Test.YtonlkmepdehdgaaWiBits
import Derived.Test.YtonlkmepdehdgaaSeq
import Derived.WalkKit
import Derived.ProofKit
import Derived.OpenShut
import Derived.ShutString
import Derived.ChangeOld
import Derived.Below
namespace Go.Proofs.Ytonlkmepdehdgaa
namespace wireNums
open Go.ChangeShapes Go.WideShapes Go.ChangeAt Go.RowKit
open Go.ChangeMaps (open_string shut_string)
set_option linter.unusedVariables false

theorem own : ownKnob Try.prog.godebug = none := by kernel_rfl

/-- The order of octets: of the first place where they are unlike. -/
def lessN : List Int → List Int → Bool
  | _, [] => false
  | [], _ :: _ => true
  | a :: x, b :: y => decide (a < b) || (decide (a = b) && lessN x y)

theorem lessN_nil (x : List Int) : lessN x [] = false := by cases x <;> rfl

theorem u8_lt {a b : Int} (ha : 0 ≤ a ∧ a ≤ 255) (hb : 0 ≤ b ∧ b ≤ 255) : (UInt8.ofNat a.toNat < UInt8.ofNat b.toNat) ↔ a < b := by
  rw [UInt8.lt_iff_toNat_lt, UInt8.toNat_ofNat', UInt8.toNat_ofNat', Nat.mod_eq_of_lt (by omega), Nat.mod_eq_of_lt (by omega)]
  omega
theorem u8_eq {a b : Int} (ha : 0 ≤ a ∧ a ≤ 255) (hb : 0 ≤ b ∧ b ≤ 255) : (UInt8.ofNat a.toNat = UInt8.ofNat b.toNat) ↔ a = b := by
  constructor
  · intro h
    have h := congrArg UInt8.toNat h
    rw [UInt8.toNat_ofNat', UInt8.toNat_ofNat', Nat.mod_eq_of_lt (by omega), Nat.mod_eq_of_lt (by omega)] at h
    omega
  · intro h
    rw [h]

theorem less_nums : ∀ (xs ys : List Int), (∀ x ∈ xs, 0 ≤ x ∧ x ≤ 255) → (∀ y ∈ ys, 0 ≤ y ∧ y ≤ 255) → Op.bytesLess (strOfNums xs).toList (strOfNums ys).toList = lessN xs ys := by
  intro xs ys hx hy
  rw [ByteArray.toList_eq, ByteArray.toList_eq, strOfNums_data, strOfNums_data]
  induction xs generalizing ys with
  | nil => cases ys <;> rfl
  | cons a x ih =>
    cases ys with
    | nil => rfl
    | cons b y =>
      have ha := hx a (by simp)
      have hb := hy b (by simp)
      have h := ih y (fun z hz => hx z (by simp [hz])) (fun z hz => hy z (by simp [hz]))
      simp only [List.map_cons, Op.bytesLess, lessN, h]
      have e1 : decide (UInt8.ofNat a.toNat < UInt8.ofNat b.toNat) = decide (a < b) := by rw [decide_eq_decide]; exact u8_lt ha hb
      have e2 : (UInt8.ofNat a.toNat == UInt8.ofNat b.toNat) = decide (a = b) := by
        rw [Bool.eq_iff_iff, beq_iff_eq, decide_eq_true_iff]; exact u8_eq ha hb
      rw [e1, e2]

theorem less_key (a3 a2 a1 a0 b3 b2 b1 b0 : Int) (h2 : 0 ≤ a2 ∧ a2 ≤ 255) (h1 : 0 ≤ a1 ∧ a1 ≤ 255) (h0 : 0 ≤ a0 ∧ a0 ≤ 255) (k2 : 0 ≤ b2 ∧ b2 ≤ 255) (k1 : 0 ≤ b1 ∧ b1 ≤ 255) (k0 : 0 ≤ b0 ∧ b0 ≤ 255) :
    (a3 < b3 ∨ a3 = b3 ∧ (a2 < b2 ∨ a2 = b2 ∧ (a1 < b1 ∨ a1 = b1 ∧ a0 < b0))) ↔ a3 * 16777216 + a2 * 65536 + a1 * 256 + a0 < b3 * 16777216 + b2 * 65536 + b1 * 256 + b0 := by
  constructor
  · intro h
    rcases h with h | ⟨h, h | ⟨h', h | ⟨h'', h⟩⟩⟩ <;> omega
  · intro h
    by_cases e3 : a3 < b3
    · exact .inl e3
    · by_cases e2 : a2 < b2
      · exact .inr ⟨by omega, .inl e2⟩
      · by_cases e1 : a1 < b1
        · exact .inr ⟨by omega, .inr ⟨by omega, .inl e1⟩⟩
        · exact .inr ⟨by omega, .inr ⟨by omega, .inr ⟨by omega, by omega⟩⟩⟩
theorem less_num {a b : Int} (h0 : 0 ≤ a) (h1 : a < 4294967296) (k0 : 0 ≤ b) (k1 : b < 4294967296) : lessN (numOct a 4) (numOct b 4) = decide (a < b) := by
  rw [numOct4, numOct4]
  simp only [lessN]
  rw [Bool.eq_iff_iff]
  simp only [Bool.or_eq_true, Bool.and_eq_true, decide_eq_true_eq, Bool.false_eq_true, and_false, or_false]
  have key := less_key (a / 16777216 % 256) (a / 65536 % 256) (a / 256 % 256) (a % 256) (b / 16777216 % 256) (b / 65536 % 256) (b / 256 % 256) (b % 256) (by omega) (by omega) (by omega) (by omega) (by omega) (by omega)
  have ea : a / 16777216 % 256 * 16777216 + a / 65536 % 256 * 65536 + a / 256 % 256 * 256 + a % 256 = a := by omega
  have eb : b / 16777216 % 256 * 16777216 + b / 65536 % 256 * 65536 + b / 256 % 256 * 256 + b % 256 = b := by omega
  rw [ea, eb] at key
  exact key

theorem numOct1 (n : Int) : numOct n 1 = [n % 256] := by simp [numOct, List.range, List.range.loop]
theorem numOct2 (n : Int) : numOct n 2 = [n / 256 % 256, n % 256] := by simp [numOct, List.range, List.range.loop]
theorem numOct3 (n : Int) : numOct n 3 = [n / 65536 % 256, n / 256 % 256, n % 256] := by simp [numOct, List.range, List.range.loop]
theorem low_1 (n : Int) : (numOct n 4).drop 3 = numOct n 1 ∧ numV (numOct n 1) = n % 256 := by
  rw [numOct4, numOct1]
  exact ⟨rfl, by simp [numV]⟩
theorem low_2 (n : Int) : (numOct n 4).drop 2 = numOct n 2 ∧ numV (numOct n 2) = n % 65536 := by
  rw [numOct4, numOct2]
  exact ⟨rfl, by simp [numV]; omega⟩
theorem low_3 (n : Int) : (numOct n 4).drop 1 = numOct n 3 ∧ numV (numOct n 3) = n % 16777216 := by
  rw [numOct4, numOct3]
  exact ⟨rfl, by simp [numV]; omega⟩
theorem low_4 (n : Int) : (numOct n 4).drop 0 = numOct n 4 ∧ numV (numOct n 4) = n % 4294967296 := by
  rw [numOct4]
  exact ⟨rfl, by simp [numV]; omega⟩

theorem nums_exact (xs : List Int) (k : Int) (K : Nat) (hK : widthK k = K) (hl : xs.length = K) : numE xs k = 0 ∧ numM xs k = numV xs ∧ numR xs k = [] := by
  refine ⟨?_, ?_, ?_⟩
  · rw [numE, hK, if_neg (by omega)]
  · rw [numM, hK, if_neg (by omega), ← hl, List.take_length]
  · rw [numR, hK, if_neg (by omega), ← hl, List.drop_length]

theorem max_is (k : Int) : ∃ M : Int, (∀ w, (Builtin.max_ #[3, 3] 3 #[.int .i64 k, .int .i64 1]).run Try.prog w = .ok (.int .i64 M) w) ∧ ∀ w, (Builtin.min_ #[3, 3] 3 #[.int .i64 M, .int .i64 4]).run Try.prog w = .ok (.int .i64 (widthK k : Nat)) w := by
  refine ⟨if 1 > k then 1 else k, fun w => by simp [Builtin.max_, Builtin.max2], fun w => ?_⟩
  simp only [Builtin.min_, Builtin.min2, List.foldlM, widthK]
  by_cases h : k < 1
  · simp [h]
  · by_cases h4 : 4 < k
    · simp [h, h4]
    · have e : ((k.toNat : Nat) : Int) = k := by omega
      simp [h, h4, e]

/-- A slice of octets that was there reads as the same string in every later world. -/
theorem conv_keep {w4 W : World} {B n c : Nat} {A : Option Addr} {xs : List Int} {s : ByteArray} (h : Oct w4 B A n xs) (hB : B ≤ w4.heap.size) (p : Below w4.heap.size w4 W) (hs : strOfNums xs = s) :
    ∀ w', Below W.heap.size W w' → (convert 22 9 (.slice A n c)).run Try.prog w' = .ok (.string s) w' := fun w' hb => by
  rw [← hs]
  exact (h.below ((p.trans (hb.mono p.size)).mono hB)).str c

set_option maxRecDepth 100000 in
set_option maxHeartbeats 4000000 in
theorem walk (a0 : Int) (a1 : Int) (a2 : Int) (w0 : (Lit.int .i64 a0).wf = true) (w1 : (Lit.int .i64 a1).wf = true) (w2 : (Lit.int .i64 a2).wf = true) (w : World) :
    Calls Try.prog 7 #[.int .i64 a0, .int .i64 a1, .int .i64 a2] w fun e w' => e = .returned (.bool true) ∧ Below w.heap.size w w' := by
  obtain ⟨M, hmx, hmn⟩ := max_is a2
  have hk := widthK_le a2
  have hc : widthK a2 = 1 ∨ widthK a2 = 2 ∨ widthK a2 = 3 ∨ widthK a2 = 4 := by omega
  clear hk
  rcases hc with hK | hK | hK | hK
  · rw [hK] at hmn
    have HK := Lib.hid hK
    clear hK
    obtain ⟨s1, es1⟩ : ∃ s, strOfNums (numOct a0 1) = s := ⟨_, rfl⟩
    obtain ⟨s4, es4⟩ : ∃ s, strOfNums (numOct a0 4) = s := ⟨_, rfl⟩
    obtain ⟨s5, es5⟩ : ∃ s, strOfNums (numOct a1 4) = s := ⟨_, rfl⟩
    have es2 : strOfNums ((numOct a0 4).drop 3) = s1 := by rw [(low_1 a0).1, es1]
    obtain ⟨V, hV⟩ : ∃ V, a0 % 256 = V := ⟨_, rfl⟩
    have hA : bits .and .i64 a0 255 = V := by rw [and_255, hV]
    have HV : Hid (numV (numOct a0 1) = V) := by show _ = _; rw [(low_1 a0).2, hV]
    have hVV : (V != V) = false := by simp
    clear hV
    go_enter Try.func7, Try.ntmps7
    go_wp2_with fail
    refine (awake_any _).mono ?_
    rintro e w1 ⟨rfl, hb⟩
    have k1 := hb.size
    go_wp2_with fail
    refine (putNum_any none 0 0 0 [] a0 a2 w1 (Oct.nil _ _ _) (Nat.zero_le _) (Nat.zero_le _)).mono ?_
    rw [List.nil_append, HK.out]
    rintro e w2 ⟨A2, n2, c2, rfl, g21, g22, hO2, hb2⟩
    obtain rfl : n2 = 1 := by rw [← hO2.1, numOct_length]
    have HO2 := Lib.hid hO2
    have k2 := hb2.size
    clear hO2
    go_wp2_with fail
    refine (putNum_any none 0 0 0 [] a0 4 w2 (Oct.nil _ _ _) (Nat.zero_le _) (Nat.zero_le _)).mono ?_
    rw [List.nil_append, show widthK 4 = 4 from rfl]
    rintro e w3 ⟨A3, n3, c3, rfl, g31, g32, hO3, hb3⟩
    obtain rfl : n3 = 4 := by rw [← hO3.1, numOct_length]
    have HO3 := Lib.hid hO3
    have k3 := hb3.size
    clear hO3
    have O23 := Lib.hid (HO2.out.below hb3)
    have O33 := Lib.hid (HO3.out.cutA 3 c3 g31 (by omega))
    have u3 : Below w.heap.size w w3 := hb.trans ((hb2.trans (hb3.mono k2)).mono k1)
    have q1 := Lib.hid (conv_keep (c := c2) O23.out k3 (Below.refl w3.heap.size w3).drew es1)
    have q2 := Lib.hid (conv_keep (c := c3 - 3) O33.out (Nat.le_refl _) (Below.refl w3.heap.size w3).drew es2)
    have r1 := Lib.hid (run_cut_l A3 4 c3 3 3 rfl (by omega))
    go_wp2_with fail
    refine seq_start (by kernel_rfl) ?_
    refine seq_move 0 23 (.slice A2 1 c2) (.tmp 9) (by kernel_rfl) (by kernel_rfl) (by kernel_rfl) (by kernel_rfl) (by kernel_rfl) (fun _ _ _ h => h) (by kernel_rfl) ?_
    refine seq_len 1 24 A2 1 c2 (.tmp 23) #[22] (by kernel_rfl) (by kernel_rfl) (by kernel_rfl) (by kernel_rfl) (by kernel_rfl) (fun _ _ _ h => h) (by kernel_rfl) 22 _ rfl Try.underlying22 ?_
    refine seq_move 2 25 (.int .i64 1) (.tmp 8) (by kernel_rfl) (by kernel_rfl) (by kernel_rfl) (by kernel_rfl) (by kernel_rfl) (fun _ _ _ h => h) (by kernel_rfl) ?_
    refine seq_bin 3 26 (.bool false) (.int .i64 (1 : Nat)) (.int .i64 1) .neq 3 3 (.tmp 24) (.tmp 25) (by kernel_rfl) (by kernel_rfl) (by kernel_rfl) (by kernel_rfl) (by kernel_rfl) (fun _ _ _ h => h) (by kernel_rfl) (by kernel_rfl) ?_ ?_
    · intro w'; go_simp
    refine seq_move 4 27 (.bool false) (.tmp 26) (by kernel_rfl) (by kernel_rfl) (by kernel_rfl) (by kernel_rfl) (by kernel_rfl) (fun _ _ _ h => h) (by kernel_rfl) ?_
    refine seq_move 5 28 (.slice A3 4 c3) (.tmp 10) (by kernel_rfl) (by kernel_rfl) (by kernel_rfl) (by kernel_rfl) (by kernel_rfl) (fun _ _ _ h => h) (by kernel_rfl) ?_
    refine seq_len 6 29 A3 4 c3 (.tmp 28) #[22] (by kernel_rfl) (by kernel_rfl) (by kernel_rfl) (by kernel_rfl) (by kernel_rfl) (fun _ _ _ h => h) (by kernel_rfl) 22 _ rfl Try.underlying22 ?_
    refine seq_bin 7 30 (.bool false) (.int .i64 (4 : Nat)) (.int .i64 4) .neq 3 3 (.tmp 29) (.const (.int .i64 4)) (by kernel_rfl) (by kernel_rfl) (by kernel_rfl) (by kernel_rfl) (by kernel_rfl) (fun _ _ _ h => h) (by kernel_rfl) (by kernel_rfl) ?_ ?_
    · intro w'; go_simp
    refine seq_pick 8 31 (.bool false) (.tmp 27) (.const (.bool true)) (.tmp 30) false (by kernel_rfl) (by kernel_rfl) (by kernel_rfl) (by kernel_rfl) (by kernel_rfl) (fun _ _ _ h => h) (by kernel_rfl) (by kernel_rfl) ?_
    refine seq_move 9 32 (.bool false) (.tmp 31) (by kernel_rfl) (by kernel_rfl) (by kernel_rfl) (by kernel_rfl) (by kernel_rfl) (fun _ _ _ h => h) (by kernel_rfl) ?_
    refine seq_move 10 33 (.slice A2 1 c2) (.tmp 9) (by kernel_rfl) (by kernel_rfl) (by kernel_rfl) (by kernel_rfl) (by kernel_rfl) (fun _ _ _ h => h) (by kernel_rfl) ?_
    refine seq_convert 11 34 (.string s1) (.slice A2 1 c2) 22 9 (.tmp 33) (by kernel_rfl) (by kernel_rfl) (by kernel_rfl) (by kernel_rfl) (by kernel_rfl) (fun _ _ _ h => h) (by kernel_rfl) q1.out ?_
    refine seq_move 12 35 (.slice A3 4 c3) (.tmp 10) (by kernel_rfl) (by kernel_rfl) (by kernel_rfl) (by kernel_rfl) (by kernel_rfl) (fun _ _ _ h => h) (by kernel_rfl) ?_
    refine seq_move 13 36 (.int .i64 1) (.tmp 8) (by kernel_rfl) (by kernel_rfl) (by kernel_rfl) (by kernel_rfl) (by kernel_rfl) (fun _ _ _ h => h) (by kernel_rfl) ?_
    refine seq_bin 14 37 (.int .i64 3) (.int .i64 4) (.int .i64 1) .sub 3 3 (.const (.int .i64 4)) (.tmp 36) (by kernel_rfl) (by kernel_rfl) (by kernel_rfl) (by kernel_rfl) (by kernel_rfl) (fun _ _ _ h => h) (by kernel_rfl) (by kernel_rfl) ?_ ?_
    · intro w'; go_simp; rfl
    refine seq_slice 15 38 (.slice (cutA A3 3 c3) 1 (c3 - 3)) (.slice A3 4 c3) (.int .i64 3) 22 (.tmp 35) (.tmp 37) (by kernel_rfl) (by kernel_rfl) (by kernel_rfl) (by kernel_rfl) (by kernel_rfl) (fun _ _ _ h => h) (by kernel_rfl) (by kernel_rfl) ?_ ?_
    · intro w'; exact r1.out _
    refine seq_convert 16 39 (.string s1) (.slice (cutA A3 3 c3) 1 (c3 - 3)) 22 9 (.tmp 38) (by kernel_rfl) (by kernel_rfl) (by kernel_rfl) (by kernel_rfl) (by kernel_rfl) (fun _ _ _ h => h) (by kernel_rfl) q2.out ?_
    refine seq_bin 17 40 (.bool false) (.string s1) (.string s1) .neq 9 9 (.tmp 34) (.tmp 39) (by kernel_rfl) (by kernel_rfl) (by kernel_rfl) (by kernel_rfl) (by kernel_rfl) (fun _ _ _ h => h) (by kernel_rfl) (by kernel_rfl) ?_ ?_
    · intro w'; go_simp
    refine seq_pick 18 41 (.bool false) (.tmp 32) (.const (.bool true)) (.tmp 40) false (by kernel_rfl) (by kernel_rfl) (by kernel_rfl) (by kernel_rfl) (by kernel_rfl) (fun _ _ _ h => h) (by kernel_rfl) (by kernel_rfl) ?_
    refine seq_done (by kernel_rfl) (by simp only [put_lit, List.set_cons_succ, List.set_cons_zero]; rfl) ?_ _
    go_wp2_with fail
    refine (getNum_any A2 1 c2 w2.heap.size _ a2 w3.drew (O23.out.below (Below.refl _ w3).drew) g21 g22).mono ?_
    rw [(nums_exact _ a2 1 HK.out (numOct_length a0 1)).1, (nums_exact _ a2 1 HK.out (numOct_length a0 1)).2.1, (nums_exact _ a2 1 HK.out (numOct_length a0 1)).2.2, HV.out]
    rintro e w4 ⟨A4, n4, c4, rfl, g41, g42, hO4, hb4⟩
    obtain rfl : n4 = 0 := hO4.1.symm
    have k4 := hb4.size
    have u4 : Below w.heap.size w w4 := u3.trans ((((Below.refl _ w3).drew.trans hb4)).mono u3.size)
    have O34 := Lib.hid (HO3.out.below ((Below.refl _ w3).drew.trans hb4))
    clear hO4 hb hb2 hb3 hb4 q1 q2 r1 O23 O33 HO2 HO3 HV HK hmx hmn
    by_cases n0 : a0 < 0
    · go_wp2
      go_ret
      exact ⟨rfl, u4⟩
    by_cases n1 : a1 < 0
    · go_wp2
      go_ret
      exact ⟨rfl, u4⟩
    by_cases n2 : 4294967296 ≤ a0
    · go_wp2
      go_ret
      exact ⟨rfl, u4⟩
    by_cases n3 : 4294967296 ≤ a1
    · go_wp2
      go_ret
      exact ⟨rfl, u4⟩
    have hless : Op.bytesLess s4.toList s5.toList = decide (a0 < a1) := by
      rw [← es4, ← es5, less_nums _ _ (numOct_bytes a0 4) (numOct_bytes a1 4), less_num (by omega) (by omega) (by omega) (by omega)]
    have q3 := Lib.hid (conv_keep (c := c3) O34.out k4 (Below.refl w4.heap.size w4).drew es4)
    go_wp2_with fail
    refine seq_start (by kernel_rfl) ?_
    refine seq_move 0 82 (.bool true) (.tmp 7) (by kernel_rfl) (by kernel_rfl) (by kernel_rfl) (by kernel_rfl) (by kernel_rfl) (fun _ _ _ h => h) (by kernel_rfl) ?_
    refine seq_move 1 83 (.bool true) (.tmp 82) (by kernel_rfl) (by kernel_rfl) (by kernel_rfl) (by kernel_rfl) (by kernel_rfl) (fun _ _ _ h => h) (by kernel_rfl) ?_
    refine seq_move 2 84 (.slice A3 4 c3) (.tmp 10) (by kernel_rfl) (by kernel_rfl) (by kernel_rfl) (by kernel_rfl) (by kernel_rfl) (fun _ _ _ h => h) (by kernel_rfl) ?_
    refine seq_convert 3 85 (.string s4) (.slice A3 4 c3) 22 9 (.tmp 84) (by kernel_rfl) (by kernel_rfl) (by kernel_rfl) (by kernel_rfl) (by kernel_rfl) (fun _ _ _ h => h) (by kernel_rfl) q3.out ?_
    refine seq_move 4 86 (.int .i64 a1) (.tmp 1) (by kernel_rfl) (by kernel_rfl) (by kernel_rfl) (by kernel_rfl) (by kernel_rfl) (fun _ _ _ h => h) (by kernel_rfl) ?_
    refine seq_move 8 90 (.int .i64 a0) (.tmp 0) (by kernel_rfl) (by kernel_rfl) (by kernel_rfl) (by kernel_rfl) (by kernel_rfl) (fun _ _ _ h => h) (by kernel_rfl) ?_
    refine seq_move 9 91 (.int .i64 a1) (.tmp 1) (by kernel_rfl) (by kernel_rfl) (by kernel_rfl) (by kernel_rfl) (by kernel_rfl) (fun _ _ _ h => h) (by kernel_rfl) ?_
    refine seq_bin 10 92 (.bool (decide (a0 < a1))) (.int .i64 a0) (.int .i64 a1) .lss 3 3 (.tmp 90) (.tmp 91) (by kernel_rfl) (by kernel_rfl) (by kernel_rfl) (by kernel_rfl) (by kernel_rfl) (fun _ _ _ h => h) (by kernel_rfl) (by kernel_rfl) ?_ ?_
    · intro w'; go_simp
    refine seq_call 5 87 19 #[.const (.slice none 0 0), .tmp 86, .const (.int .i64 4)] #[22, 3, 3] #[.slice none 0 0, .int .i64 a1, .int .i64 4] (by kernel_rfl) (by kernel_rfl) (by kernel_rfl) (by kernel_rfl) (by kernel_rfl) ?_
    refine (putNum_any none 0 0 0 [] a1 4 w4.drew (Oct.nil _ _ _) (Nat.zero_le _) (Nat.zero_le _)).mono ?_
    rw [List.nil_append, show widthK 4 = 4 from rfl]
    rintro e w5 ⟨A5, n5, c5, rfl, g51, g52, hO5, hb5⟩
    obtain rfl : n5 = 4 := by rw [← hO5.1, numOct_length]
    refine ⟨_, rfl, hb5, ?_⟩
    have q5 := Lib.hid (conv_keep (c := c5) hO5 (Nat.le_refl _) (Below.refl w5.heap.size w5) es5)
    have u5 : Below w.heap.size w w5 := u4.drew.trans (hb5.mono u4.size)
    clear hO5
    refine seq_convert 6 88 (.string s5) (.slice A5 4 c5) 22 9 (.tmp 87) (by kernel_rfl) (by kernel_rfl) (by kernel_rfl) (by kernel_rfl) (by kernel_rfl) (fun _ _ _ h => h) (by kernel_rfl) q5.out ?_
    refine seq_bin 7 89 (.bool (decide (a0 < a1))) (.string s4) (.string s5) .lss 9 9 (.tmp 85) (.tmp 88) (by kernel_rfl) (by kernel_rfl) (by kernel_rfl) (by kernel_rfl) (by kernel_rfl) (fun _ _ _ h => h) (by kernel_rfl) (by kernel_rfl) ?_ ?_
    · intro w'; go_simp
    refine seq_bin 11 93 (.bool true) (.bool (decide (a0 < a1))) (.bool (decide (a0 < a1))) .eql 4 4 (.tmp 89) (.tmp 92) (by kernel_rfl) (by kernel_rfl) (by kernel_rfl) (by kernel_rfl) (by kernel_rfl) (fun _ _ _ h => h) (by kernel_rfl) (by kernel_rfl) ?_ ?_
    · intro w'; go_simp
    refine seq_pick 12 94 (.bool true) (.tmp 83) (.tmp 93) (.const (.bool false)) true (by kernel_rfl) (by kernel_rfl) (by kernel_rfl) (by kernel_rfl) (by kernel_rfl) (fun _ _ _ h => h) (by kernel_rfl) (by kernel_rfl) ?_
    refine seq_assign 13 6 (.bool true) (.tmp 94) (by kernel_rfl) (by kernel_rfl) (by kernel_rfl) (by kernel_rfl) (by kernel_rfl) (fun _ _ _ h => h) (by kernel_rfl) ?_
    refine seq_done (by kernel_rfl) (by simp only [put_lit, List.set_cons_succ, List.set_cons_zero]; rfl) ?_ _
    go_wp2
    go_ret
    exact ⟨by kernel_rfl, u5⟩
  · rw [hK] at hmn
    have HK := Lib.hid hK
    clear hK
    obtain ⟨s1, es1⟩ : ∃ s, strOfNums (numOct a0 2) = s := ⟨_, rfl⟩
    obtain ⟨s4, es4⟩ : ∃ s, strOfNums (numOct a0 4) = s := ⟨_, rfl⟩
    obtain ⟨s5, es5⟩ : ∃ s, strOfNums (numOct a1 4) = s := ⟨_, rfl⟩
    have es2 : strOfNums ((numOct a0 4).drop 2) = s1 := by rw [(low_2 a0).1, es1]
    obtain ⟨V, hV⟩ : ∃ V, a0 % 65536 = V := ⟨_, rfl⟩
    have hA : bits .and .i64 a0 65535 = V := by rw [and_65535, hV]
    have HV : Hid (numV (numOct a0 2) = V) := by show _ = _; rw [(low_2 a0).2, hV]
    have hVV : (V != V) = false := by simp
    clear hV
    go_enter Try.func7, Try.ntmps7
    go_wp2_with fail
    refine (awake_any _).mono ?_
    rintro e w1 ⟨rfl, hb⟩
    have k1 := hb.size
    go_wp2_with fail
    refine (putNum_any none 0 0 0 [] a0 a2 w1 (Oct.nil _ _ _) (Nat.zero_le _) (Nat.zero_le _)).mono ?_
    rw [List.nil_append, HK.out]
    rintro e w2 ⟨A2, n2, c2, rfl, g21, g22, hO2, hb2⟩
    obtain rfl : n2 = 2 := by rw [← hO2.1, numOct_length]
    have HO2 := Lib.hid hO2
    have k2 := hb2.size
    clear hO2
    go_wp2_with fail
    refine (putNum_any none 0 0 0 [] a0 4 w2 (Oct.nil _ _ _) (Nat.zero_le _) (Nat.zero_le _)).mono ?_
    rw [List.nil_append, show widthK 4 = 4 from rfl]
    rintro e w3 ⟨A3, n3, c3, rfl, g31, g32, hO3, hb3⟩
    obtain rfl : n3 = 4 := by rw [← hO3.1, numOct_length]
    have HO3 := Lib.hid hO3
    have k3 := hb3.size
    clear hO3
    have O23 := Lib.hid (HO2.out.below hb3)
    have O33 := Lib.hid (HO3.out.cutA 2 c3 g31 (by omega))
    have u3 : Below w.heap.size w w3 := hb.trans ((hb2.trans (hb3.mono k2)).mono k1)
    have q1 := Lib.hid (conv_keep (c := c2) O23.out k3 (Below.refl w3.heap.size w3).drew es1)
    have q2 := Lib.hid (conv_keep (c := c3 - 2) O33.out (Nat.le_refl _) (Below.refl w3.heap.size w3).drew es2)
    have r1 := Lib.hid (run_cut_l A3 4 c3 2 2 rfl (by omega))
    go_wp2_with fail
    refine seq_start (by kernel_rfl) ?_
    refine seq_move 0 23 (.slice A2 2 c2) (.tmp 9) (by kernel_rfl) (by kernel_rfl) (by kernel_rfl) (by kernel_rfl) (by kernel_rfl) (fun _ _ _ h => h) (by kernel_rfl) ?_
    refine seq_len 1 24 A2 2 c2 (.tmp 23) #[22] (by kernel_rfl) (by kernel_rfl) (by kernel_rfl) (by kernel_rfl) (by kernel_rfl) (fun _ _ _ h => h) (by kernel_rfl) 22 _ rfl Try.underlying22 ?_
    refine seq_move 2 25 (.int .i64 2) (.tmp 8) (by kernel_rfl) (by kernel_rfl) (by kernel_rfl) (by kernel_rfl) (by kernel_rfl) (fun _ _ _ h => h) (by kernel_rfl) ?_
    refine seq_bin 3 26 (.bool false) (.int .i64 (2 : Nat)) (.int .i64 2) .neq 3 3 (.tmp 24) (.tmp 25) (by kernel_rfl) (by kernel_rfl) (by kernel_rfl) (by kernel_rfl) (by kernel_rfl) (fun _ _ _ h => h) (by kernel_rfl) (by kernel_rfl) ?_ ?_
    · intro w'; go_simp
    refine seq_move 4 27 (.bool false) (.tmp 26) (by kernel_rfl) (by kernel_rfl) (by kernel_rfl) (by kernel_rfl) (by kernel_rfl) (fun _ _ _ h => h) (by kernel_rfl) ?_
    refine seq_move 5 28 (.slice A3 4 c3) (.tmp 10) (by kernel_rfl) (by kernel_rfl) (by kernel_rfl) (by kernel_rfl) (by kernel_rfl) (fun _ _ _ h => h) (by kernel_rfl) ?_
    refine seq_len 6 29 A3 4 c3 (.tmp 28) #[22] (by kernel_rfl) (by kernel_rfl) (by kernel_rfl) (by kernel_rfl) (by kernel_rfl) (fun _ _ _ h => h) (by kernel_rfl) 22 _ rfl Try.underlying22 ?_
    refine seq_bin 7 30 (.bool false) (.int .i64 (4 : Nat)) (.int .i64 4) .neq 3 3 (.tmp 29) (.const (.int .i64 4)) (by kernel_rfl) (by kernel_rfl) (by kernel_rfl) (by kernel_rfl) (by kernel_rfl) (fun _ _ _ h => h) (by kernel_rfl) (by kernel_rfl) ?_ ?_
    · intro w'; go_simp
    refine seq_pick 8 31 (.bool false) (.tmp 27) (.const (.bool true)) (.tmp 30) false (by kernel_rfl) (by kernel_rfl) (by kernel_rfl) (by kernel_rfl) (by kernel_rfl) (fun _ _ _ h => h) (by kernel_rfl) (by kernel_rfl) ?_
    refine seq_move 9 32 (.bool false) (.tmp 31) (by kernel_rfl) (by kernel_rfl) (by kernel_rfl) (by kernel_rfl) (by kernel_rfl) (fun _ _ _ h => h) (by kernel_rfl) ?_
    refine seq_move 10 33 (.slice A2 2 c2) (.tmp 9) (by kernel_rfl) (by kernel_rfl) (by kernel_rfl) (by kernel_rfl) (by kernel_rfl) (fun _ _ _ h => h) (by kernel_rfl) ?_
    refine seq_convert 11 34 (.string s1) (.slice A2 2 c2) 22 9 (.tmp 33) (by kernel_rfl) (by kernel_rfl) (by kernel_rfl) (by kernel_rfl) (by kernel_rfl) (fun _ _ _ h => h) (by kernel_rfl) q1.out ?_
    refine seq_move 12 35 (.slice A3 4 c3) (.tmp 10) (by kernel_rfl) (by kernel_rfl) (by kernel_rfl) (by kernel_rfl) (by kernel_rfl) (fun _ _ _ h => h) (by kernel_rfl) ?_
    refine seq_move 13 36 (.int .i64 2) (.tmp 8) (by kernel_rfl) (by kernel_rfl) (by kernel_rfl) (by kernel_rfl) (by kernel_rfl) (fun _ _ _ h => h) (by kernel_rfl) ?_
    refine seq_bin 14 37 (.int .i64 2) (.int .i64 4) (.int .i64 2) .sub 3 3 (.const (.int .i64 4)) (.tmp 36) (by kernel_rfl) (by kernel_rfl) (by kernel_rfl) (by kernel_rfl) (by kernel_rfl) (fun _ _ _ h => h) (by kernel_rfl) (by kernel_rfl) ?_ ?_
    · intro w'; go_simp; rfl
    refine seq_slice 15 38 (.slice (cutA A3 2 c3) 2 (c3 - 2)) (.slice A3 4 c3) (.int .i64 2) 22 (.tmp 35) (.tmp 37) (by kernel_rfl) (by kernel_rfl) (by kernel_rfl) (by kernel_rfl) (by kernel_rfl) (fun _ _ _ h => h) (by kernel_rfl) (by kernel_rfl) ?_ ?_
    · intro w'; exact r1.out _
    refine seq_convert 16 39 (.string s1) (.slice (cutA A3 2 c3) 2 (c3 - 2)) 22 9 (.tmp 38) (by kernel_rfl) (by kernel_rfl) (by kernel_rfl) (by kernel_rfl) (by kernel_rfl) (fun _ _ _ h => h) (by kernel_rfl) q2.out ?_
    refine seq_bin 17 40 (.bool false) (.string s1) (.string s1) .neq 9 9 (.tmp 34) (.tmp 39) (by kernel_rfl) (by kernel_rfl) (by kernel_rfl) (by kernel_rfl) (by kernel_rfl) (fun _ _ _ h => h) (by kernel_rfl) (by kernel_rfl) ?_ ?_
    · intro w'; go_simp
    refine seq_pick 18 41 (.bool false) (.tmp 32) (.const (.bool true)) (.tmp 40) false (by kernel_rfl) (by kernel_rfl) (by kernel_rfl) (by kernel_rfl) (by kernel_rfl) (fun _ _ _ h => h) (by kernel_rfl) (by kernel_rfl) ?_
    refine seq_done (by kernel_rfl) (by simp only [put_lit, List.set_cons_succ, List.set_cons_zero]; rfl) ?_ _
    go_wp2_with fail
    refine (getNum_any A2 2 c2 w2.heap.size _ a2 w3.drew (O23.out.below (Below.refl _ w3).drew) g21 g22).mono ?_
    rw [(nums_exact _ a2 2 HK.out (numOct_length a0 2)).1, (nums_exact _ a2 2 HK.out (numOct_length a0 2)).2.1, (nums_exact _ a2 2 HK.out (numOct_length a0 2)).2.2, HV.out]
    rintro e w4 ⟨A4, n4, c4, rfl, g41, g42, hO4, hb4⟩
    obtain rfl : n4 = 0 := hO4.1.symm
    have k4 := hb4.size
    have u4 : Below w.heap.size w w4 := u3.trans ((((Below.refl _ w3).drew.trans hb4)).mono u3.size)
    have O34 := Lib.hid (HO3.out.below ((Below.refl _ w3).drew.trans hb4))
    clear hO4 hb hb2 hb3 hb4 q1 q2 r1 O23 O33 HO2 HO3 HV HK hmx hmn
    by_cases n0 : a0 < 0
    · go_wp2
      go_ret
      exact ⟨rfl, u4⟩
    by_cases n1 : a1 < 0
    · go_wp2
      go_ret
      exact ⟨rfl, u4⟩
    by_cases n2 : 4294967296 ≤ a0
    · go_wp2
      go_ret
      exact ⟨rfl, u4⟩
    by_cases n3 : 4294967296 ≤ a1
    · go_wp2
      go_ret
      exact ⟨rfl, u4⟩
    have hless : Op.bytesLess s4.toList s5.toList = decide (a0 < a1) := by
      rw [← es4, ← es5, less_nums _ _ (numOct_bytes a0 4) (numOct_bytes a1 4), less_num (by omega) (by omega) (by omega) (by omega)]
    have q3 := Lib.hid (conv_keep (c := c3) O34.out k4 (Below.refl w4.heap.size w4).drew es4)
    go_wp2_with fail
    refine seq_start (by kernel_rfl) ?_
    refine seq_move 0 82 (.bool true) (.tmp 7) (by kernel_rfl) (by kernel_rfl) (by kernel_rfl) (by kernel_rfl) (by kernel_rfl) (fun _ _ _ h => h) (by kernel_rfl) ?_
    refine seq_move 1 83 (.bool true) (.tmp 82) (by kernel_rfl) (by kernel_rfl) (by kernel_rfl) (by kernel_rfl) (by kernel_rfl) (fun _ _ _ h => h) (by kernel_rfl) ?_
    refine seq_move 2 84 (.slice A3 4 c3) (.tmp 10) (by kernel_rfl) (by kernel_rfl) (by kernel_rfl) (by kernel_rfl) (by kernel_rfl) (fun _ _ _ h => h) (by kernel_rfl) ?_
    refine seq_convert 3 85 (.string s4) (.slice A3 4 c3) 22 9 (.tmp 84) (by kernel_rfl) (by kernel_rfl) (by kernel_rfl) (by kernel_rfl) (by kernel_rfl) (fun _ _ _ h => h) (by kernel_rfl) q3.out ?_
    refine seq_move 4 86 (.int .i64 a1) (.tmp 1) (by kernel_rfl) (by kernel_rfl) (by kernel_rfl) (by kernel_rfl) (by kernel_rfl) (fun _ _ _ h => h) (by kernel_rfl) ?_
    refine seq_move 8 90 (.int .i64 a0) (.tmp 0) (by kernel_rfl) (by kernel_rfl) (by kernel_rfl) (by kernel_rfl) (by kernel_rfl) (fun _ _ _ h => h) (by kernel_rfl) ?_
    refine seq_move 9 91 (.int .i64 a1) (.tmp 1) (by kernel_rfl) (by kernel_rfl) (by kernel_rfl) (by kernel_rfl) (by kernel_rfl) (fun _ _ _ h => h) (by kernel_rfl) ?_
    refine seq_bin 10 92 (.bool (decide (a0 < a1))) (.int .i64 a0) (.int .i64 a1) .lss 3 3 (.tmp 90) (.tmp 91) (by kernel_rfl) (by kernel_rfl) (by kernel_rfl) (by kernel_rfl) (by kernel_rfl) (fun _ _ _ h => h) (by kernel_rfl) (by kernel_rfl) ?_ ?_
    · intro w'; go_simp
    refine seq_call 5 87 19 #[.const (.slice none 0 0), .tmp 86, .const (.int .i64 4)] #[22, 3, 3] #[.slice none 0 0, .int .i64 a1, .int .i64 4] (by kernel_rfl) (by kernel_rfl) (by kernel_rfl) (by kernel_rfl) (by kernel_rfl) ?_
    refine (putNum_any none 0 0 0 [] a1 4 w4.drew (Oct.nil _ _ _) (Nat.zero_le _) (Nat.zero_le _)).mono ?_
    rw [List.nil_append, show widthK 4 = 4 from rfl]
    rintro e w5 ⟨A5, n5, c5, rfl, g51, g52, hO5, hb5⟩
    obtain rfl : n5 = 4 := by rw [← hO5.1, numOct_length]
    refine ⟨_, rfl, hb5, ?_⟩
    have q5 := Lib.hid (conv_keep (c := c5) hO5 (Nat.le_refl _) (Below.refl w5.heap.size w5) es5)
    have u5 : Below w.heap.size w w5 := u4.drew.trans (hb5.mono u4.size)
    clear hO5
    refine seq_convert 6 88 (.string s5) (.slice A5 4 c5) 22 9 (.tmp 87) (by kernel_rfl) (by kernel_rfl) (by kernel_rfl) (by kernel_rfl) (by kernel_rfl) (fun _ _ _ h => h) (by kernel_rfl) q5.out ?_
    refine seq_bin 7 89 (.bool (decide (a0 < a1))) (.string s4) (.string s5) .lss 9 9 (.tmp 85) (.tmp 88) (by kernel_rfl) (by kernel_rfl) (by kernel_rfl) (by kernel_rfl) (by kernel_rfl) (fun _ _ _ h => h) (by kernel_rfl) (by kernel_rfl) ?_ ?_
    · intro w'; go_simp
    refine seq_bin 11 93 (.bool true) (.bool (decide (a0 < a1))) (.bool (decide (a0 < a1))) .eql 4 4 (.tmp 89) (.tmp 92) (by kernel_rfl) (by kernel_rfl) (by kernel_rfl) (by kernel_rfl) (by kernel_rfl) (fun _ _ _ h => h) (by kernel_rfl) (by kernel_rfl) ?_ ?_
    · intro w'; go_simp
    refine seq_pick 12 94 (.bool true) (.tmp 83) (.tmp 93) (.const (.bool false)) true (by kernel_rfl) (by kernel_rfl) (by kernel_rfl) (by kernel_rfl) (by kernel_rfl) (fun _ _ _ h => h) (by kernel_rfl) (by kernel_rfl) ?_
    refine seq_assign 13 6 (.bool true) (.tmp 94) (by kernel_rfl) (by kernel_rfl) (by kernel_rfl) (by kernel_rfl) (by kernel_rfl) (fun _ _ _ h => h) (by kernel_rfl) ?_
    refine seq_done (by kernel_rfl) (by simp only [put_lit, List.set_cons_succ, List.set_cons_zero]; rfl) ?_ _
    go_wp2
    go_ret
    exact ⟨by kernel_rfl, u5⟩
  · rw [hK] at hmn
    have HK := Lib.hid hK
    clear hK
    obtain ⟨s1, es1⟩ : ∃ s, strOfNums (numOct a0 3) = s := ⟨_, rfl⟩
    obtain ⟨s4, es4⟩ : ∃ s, strOfNums (numOct a0 4) = s := ⟨_, rfl⟩
    obtain ⟨s5, es5⟩ : ∃ s, strOfNums (numOct a1 4) = s := ⟨_, rfl⟩
    have es2 : strOfNums ((numOct a0 4).drop 1) = s1 := by rw [(low_3 a0).1, es1]
    obtain ⟨V, hV⟩ : ∃ V, a0 % 16777216 = V := ⟨_, rfl⟩
    have hA : bits .and .i64 a0 16777215 = V := by rw [and_16777215, hV]
    have HV : Hid (numV (numOct a0 3) = V) := by show _ = _; rw [(low_3 a0).2, hV]
    have hVV : (V != V) = false := by simp
    clear hV
    go_enter Try.func7, Try.ntmps7
    go_wp2_with fail
    refine (awake_any _).mono ?_
    rintro e w1 ⟨rfl, hb⟩
    have k1 := hb.size
    go_wp2_with fail
    refine (putNum_any none 0 0 0 [] a0 a2 w1 (Oct.nil _ _ _) (Nat.zero_le _) (Nat.zero_le _)).mono ?_
    rw [List.nil_append, HK.out]
    rintro e w2 ⟨A2, n2, c2, rfl, g21, g22, hO2, hb2⟩
    obtain rfl : n2 = 3 := by rw [← hO2.1, numOct_length]
    have HO2 := Lib.hid hO2
    have k2 := hb2.size
    clear hO2
    go_wp2_with fail
    refine (putNum_any none 0 0 0 [] a0 4 w2 (Oct.nil _ _ _) (Nat.zero_le _) (Nat.zero_le _)).mono ?_
    rw [List.nil_append, show widthK 4 = 4 from rfl]
    rintro e w3 ⟨A3, n3, c3, rfl, g31, g32, hO3, hb3⟩
    obtain rfl : n3 = 4 := by rw [← hO3.1, numOct_length]
    have HO3 := Lib.hid hO3
    have k3 := hb3.size
    clear hO3
    have O23 := Lib.hid (HO2.out.below hb3)
    have O33 := Lib.hid (HO3.out.cutA 1 c3 g31 (by omega))
    have u3 : Below w.heap.size w w3 := hb.trans ((hb2.trans (hb3.mono k2)).mono k1)
    have q1 := Lib.hid (conv_keep (c := c2) O23.out k3 (Below.refl w3.heap.size w3).drew es1)
    have q2 := Lib.hid (conv_keep (c := c3 - 1) O33.out (Nat.le_refl _) (Below.refl w3.heap.size w3).drew es2)
    have r1 := Lib.hid (run_cut_l A3 4 c3 1 1 rfl (by omega))
    go_wp2_with fail
    refine seq_start (by kernel_rfl) ?_
    refine seq_move 0 23 (.slice A2 3 c2) (.tmp 9) (by kernel_rfl) (by kernel_rfl) (by kernel_rfl) (by kernel_rfl) (by kernel_rfl) (fun _ _ _ h => h) (by kernel_rfl) ?_
    refine seq_len 1 24 A2 3 c2 (.tmp 23) #[22] (by kernel_rfl) (by kernel_rfl) (by kernel_rfl) (by kernel_rfl) (by kernel_rfl) (fun _ _ _ h => h) (by kernel_rfl) 22 _ rfl Try.underlying22 ?_
    refine seq_move 2 25 (.int .i64 3) (.tmp 8) (by kernel_rfl) (by kernel_rfl) (by kernel_rfl) (by kernel_rfl) (by kernel_rfl) (fun _ _ _ h => h) (by kernel_rfl) ?_
    refine seq_bin 3 26 (.bool false) (.int .i64 (3 : Nat)) (.int .i64 3) .neq 3 3 (.tmp 24) (.tmp 25) (by kernel_rfl) (by kernel_rfl) (by kernel_rfl) (by kernel_rfl) (by kernel_rfl) (fun _ _ _ h => h) (by kernel_rfl) (by kernel_rfl) ?_ ?_
    · intro w'; go_simp
    refine seq_move 4 27 (.bool false) (.tmp 26) (by kernel_rfl) (by kernel_rfl) (by kernel_rfl) (by kernel_rfl) (by kernel_rfl) (fun _ _ _ h => h) (by kernel_rfl) ?_
    refine seq_move 5 28 (.slice A3 4 c3) (.tmp 10) (by kernel_rfl) (by kernel_rfl) (by kernel_rfl) (by kernel_rfl) (by kernel_rfl) (fun _ _ _ h => h) (by kernel_rfl) ?_
    refine seq_len 6 29 A3 4 c3 (.tmp 28) #[22] (by kernel_rfl) (by kernel_rfl) (by kernel_rfl) (by kernel_rfl) (by kernel_rfl) (fun _ _ _ h => h) (by kernel_rfl) 22 _ rfl Try.underlying22 ?_
    refine seq_bin 7 30 (.bool false) (.int .i64 (4 : Nat)) (.int .i64 4) .neq 3 3 (.tmp 29) (.const (.int .i64 4)) (by kernel_rfl) (by kernel_rfl) (by kernel_rfl) (by kernel_rfl) (by kernel_rfl) (fun _ _ _ h => h) (by kernel_rfl) (by kernel_rfl) ?_ ?_
    · intro w'; go_simp
    refine seq_pick 8 31 (.bool false) (.tmp 27) (.const (.bool true)) (.tmp 30) false (by kernel_rfl) (by kernel_rfl) (by kernel_rfl) (by kernel_rfl) (by kernel_rfl) (fun _ _ _ h => h) (by kernel_rfl) (by kernel_rfl) ?_
    refine seq_move 9 32 (.bool false) (.tmp 31) (by kernel_rfl) (by kernel_rfl) (by kernel_rfl) (by kernel_rfl) (by kernel_rfl) (fun _ _ _ h => h) (by kernel_rfl) ?_
    refine seq_move 10 33 (.slice A2 3 c2) (.tmp 9) (by kernel_rfl) (by kernel_rfl) (by kernel_rfl) (by kernel_rfl) (by kernel_rfl) (fun _ _ _ h => h) (by kernel_rfl) ?_
    refine seq_convert 11 34 (.string s1) (.slice A2 3 c2) 22 9 (.tmp 33) (by kernel_rfl) (by kernel_rfl) (by kernel_rfl) (by kernel_rfl) (by kernel_rfl) (fun _ _ _ h => h) (by kernel_rfl) q1.out ?_
    refine seq_move 12 35 (.slice A3 4 c3) (.tmp 10) (by kernel_rfl) (by kernel_rfl) (by kernel_rfl) (by kernel_rfl) (by kernel_rfl) (fun _ _ _ h => h) (by kernel_rfl) ?_
    refine seq_move 13 36 (.int .i64 3) (.tmp 8) (by kernel_rfl) (by kernel_rfl) (by kernel_rfl) (by kernel_rfl) (by kernel_rfl) (fun _ _ _ h => h) (by kernel_rfl) ?_
    refine seq_bin 14 37 (.int .i64 1) (.int .i64 4) (.int .i64 3) .sub 3 3 (.const (.int .i64 4)) (.tmp 36) (by kernel_rfl) (by kernel_rfl) (by kernel_rfl) (by kernel_rfl) (by kernel_rfl) (fun _ _ _ h => h) (by kernel_rfl) (by kernel_rfl) ?_ ?_
    · intro w'; go_simp; rfl
    refine seq_slice 15 38 (.slice (cutA A3 1 c3) 3 (c3 - 1)) (.slice A3 4 c3) (.int .i64 1) 22 (.tmp 35) (.tmp 37) (by kernel_rfl) (by kernel_rfl) (by kernel_rfl) (by kernel_rfl) (by kernel_rfl) (fun _ _ _ h => h) (by kernel_rfl) (by kernel_rfl) ?_ ?_
    · intro w'; exact r1.out _
    refine seq_convert 16 39 (.string s1) (.slice (cutA A3 1 c3) 3 (c3 - 1)) 22 9 (.tmp 38) (by kernel_rfl) (by kernel_rfl) (by kernel_rfl) (by kernel_rfl) (by kernel_rfl) (fun _ _ _ h => h) (by kernel_rfl) q2.out ?_
    refine seq_bin 17 40 (.bool false) (.string s1) (.string s1) .neq 9 9 (.tmp 34) (.tmp 39) (by kernel_rfl) (by kernel_rfl) (by kernel_rfl) (by kernel_rfl) (by kernel_rfl) (fun _ _ _ h => h) (by kernel_rfl) (by kernel_rfl) ?_ ?_
    · intro w'; go_simp
    refine seq_pick 18 41 (.bool false) (.tmp 32) (.const (.bool true)) (.tmp 40) false (by kernel_rfl) (by kernel_rfl) (by kernel_rfl) (by kernel_rfl) (by kernel_rfl) (fun _ _ _ h => h) (by kernel_rfl) (by kernel_rfl) ?_
    refine seq_done (by kernel_rfl) (by simp only [put_lit, List.set_cons_succ, List.set_cons_zero]; rfl) ?_ _
    go_wp2_with fail
    refine (getNum_any A2 3 c2 w2.heap.size _ a2 w3.drew (O23.out.below (Below.refl _ w3).drew) g21 g22).mono ?_
    rw [(nums_exact _ a2 3 HK.out (numOct_length a0 3)).1, (nums_exact _ a2 3 HK.out (numOct_length a0 3)).2.1, (nums_exact _ a2 3 HK.out (numOct_length a0 3)).2.2, HV.out]
    rintro e w4 ⟨A4, n4, c4, rfl, g41, g42, hO4, hb4⟩
    obtain rfl : n4 = 0 := hO4.1.symm
    have k4 := hb4.size
    have u4 : Below w.heap.size w w4 := u3.trans ((((Below.refl _ w3).drew.trans hb4)).mono u3.size)
    have O34 := Lib.hid (HO3.out.below ((Below.refl _ w3).drew.trans hb4))
    clear hO4 hb hb2 hb3 hb4 q1 q2 r1 O23 O33 HO2 HO3 HV HK hmx hmn
    by_cases n0 : a0 < 0
    · go_wp2
      go_ret
      exact ⟨rfl, u4⟩
    by_cases n1 : a1 < 0
    · go_wp2
      go_ret
      exact ⟨rfl, u4⟩
    by_cases n2 : 4294967296 ≤ a0
    · go_wp2
      go_ret
      exact ⟨rfl, u4⟩
    by_cases n3 : 4294967296 ≤ a1
    · go_wp2
      go_ret
      exact ⟨rfl, u4⟩
    have hless : Op.bytesLess s4.toList s5.toList = decide (a0 < a1) := by
      rw [← es4, ← es5, less_nums _ _ (numOct_bytes a0 4) (numOct_bytes a1 4), less_num (by omega) (by omega) (by omega) (by omega)]
    have q3 := Lib.hid (conv_keep (c := c3) O34.out k4 (Below.refl w4.heap.size w4).drew es4)
    go_wp2_with fail
    refine seq_start (by kernel_rfl) ?_
    refine seq_move 0 82 (.bool true) (.tmp 7) (by kernel_rfl) (by kernel_rfl) (by kernel_rfl) (by kernel_rfl) (by kernel_rfl) (fun _ _ _ h => h) (by kernel_rfl) ?_
    refine seq_move 1 83 (.bool true) (.tmp 82) (by kernel_rfl) (by kernel_rfl) (by kernel_rfl) (by kernel_rfl) (by kernel_rfl) (fun _ _ _ h => h) (by kernel_rfl) ?_
    refine seq_move 2 84 (.slice A3 4 c3) (.tmp 10) (by kernel_rfl) (by kernel_rfl) (by kernel_rfl) (by kernel_rfl) (by kernel_rfl) (fun _ _ _ h => h) (by kernel_rfl) ?_
    refine seq_convert 3 85 (.string s4) (.slice A3 4 c3) 22 9 (.tmp 84) (by kernel_rfl) (by kernel_rfl) (by kernel_rfl) (by kernel_rfl) (by kernel_rfl) (fun _ _ _ h => h) (by kernel_rfl) q3.out ?_
    refine seq_move 4 86 (.int .i64 a1) (.tmp 1) (by kernel_rfl) (by kernel_rfl) (by kernel_rfl) (by kernel_rfl) (by kernel_rfl) (fun _ _ _ h => h) (by kernel_rfl) ?_
    refine seq_move 8 90 (.int .i64 a0) (.tmp 0) (by kernel_rfl) (by kernel_rfl) (by kernel_rfl) (by kernel_rfl) (by kernel_rfl) (fun _ _ _ h => h) (by kernel_rfl) ?_
    refine seq_move 9 91 (.int .i64 a1) (.tmp 1) (by kernel_rfl) (by kernel_rfl) (by kernel_rfl) (by kernel_rfl) (by kernel_rfl) (fun _ _ _ h => h) (by kernel_rfl) ?_
    refine seq_bin 10 92 (.bool (decide (a0 < a1))) (.int .i64 a0) (.int .i64 a1) .lss 3 3 (.tmp 90) (.tmp 91) (by kernel_rfl) (by kernel_rfl) (by kernel_rfl) (by kernel_rfl) (by kernel_rfl) (fun _ _ _ h => h) (by kernel_rfl) (by kernel_rfl) ?_ ?_
    · intro w'; go_simp
    refine seq_call 5 87 19 #[.const (.slice none 0 0), .tmp 86, .const (.int .i64 4)] #[22, 3, 3] #[.slice none 0 0, .int .i64 a1, .int .i64 4] (by kernel_rfl) (by kernel_rfl) (by kernel_rfl) (by kernel_rfl) (by kernel_rfl) ?_
    refine (putNum_any none 0 0 0 [] a1 4 w4.drew (Oct.nil _ _ _) (Nat.zero_le _) (Nat.zero_le _)).mono ?_
    rw [List.nil_append, show widthK 4 = 4 from rfl]
    rintro e w5 ⟨A5, n5, c5, rfl, g51, g52, hO5, hb5⟩
    obtain rfl : n5 = 4 := by rw [← hO5.1, numOct_length]
    refine ⟨_, rfl, hb5, ?_⟩
    have q5 := Lib.hid (conv_keep (c := c5) hO5 (Nat.le_refl _) (Below.refl w5.heap.size w5) es5)
    have u5 : Below w.heap.size w w5 := u4.drew.trans (hb5.mono u4.size)
    clear hO5
    refine seq_convert 6 88 (.string s5) (.slice A5 4 c5) 22 9 (.tmp 87) (by kernel_rfl) (by kernel_rfl) (by kernel_rfl) (by kernel_rfl) (by kernel_rfl) (fun _ _ _ h => h) (by kernel_rfl) q5.out ?_
    refine seq_bin 7 89 (.bool (decide (a0 < a1))) (.string s4) (.string s5) .lss 9 9 (.tmp 85) (.tmp 88) (by kernel_rfl) (by kernel_rfl) (by kernel_rfl) (by kernel_rfl) (by kernel_rfl) (fun _ _ _ h => h) (by kernel_rfl) (by kernel_rfl) ?_ ?_
    · intro w'; go_simp
    refine seq_bin 11 93 (.bool true) (.bool (decide (a0 < a1))) (.bool (decide (a0 < a1))) .eql 4 4 (.tmp 89) (.tmp 92) (by kernel_rfl) (by kernel_rfl) (by kernel_rfl) (by kernel_rfl) (by kernel_rfl) (fun _ _ _ h => h) (by kernel_rfl) (by kernel_rfl) ?_ ?_
    · intro w'; go_simp
    refine seq_pick 12 94 (.bool true) (.tmp 83) (.tmp 93) (.const (.bool false)) true (by kernel_rfl) (by kernel_rfl) (by kernel_rfl) (by kernel_rfl) (by kernel_rfl) (fun _ _ _ h => h) (by kernel_rfl) (by kernel_rfl) ?_
    refine seq_assign 13 6 (.bool true) (.tmp 94) (by kernel_rfl) (by kernel_rfl) (by kernel_rfl) (by kernel_rfl) (by kernel_rfl) (fun _ _ _ h => h) (by kernel_rfl) ?_
    refine seq_done (by kernel_rfl) (by simp only [put_lit, List.set_cons_succ, List.set_cons_zero]; rfl) ?_ _
    go_wp2
    go_ret
    exact ⟨by kernel_rfl, u5⟩
  · rw [hK] at hmn
    have HK := Lib.hid hK
    clear hK
    obtain ⟨s1, es1⟩ : ∃ s, strOfNums (numOct a0 4) = s := ⟨_, rfl⟩
    obtain ⟨s4, es4⟩ : ∃ s, strOfNums (numOct a0 4) = s := ⟨_, rfl⟩
    obtain ⟨s5, es5⟩ : ∃ s, strOfNums (numOct a1 4) = s := ⟨_, rfl⟩
    have es2 : strOfNums ((numOct a0 4).drop 0) = s1 := by rw [(low_4 a0).1, es1]
    obtain ⟨V, hV⟩ : ∃ V, a0 % 4294967296 = V := ⟨_, rfl⟩
    have hA : bits .and .i64 a0 4294967295 = V := by rw [and_4294967295, hV]
    have HV : Hid (numV (numOct a0 4) = V) := by show _ = _; rw [(low_4 a0).2, hV]
    have hVV : (V != V) = false := by simp
    clear hV
    go_enter Try.func7, Try.ntmps7
    go_wp2_with fail
    refine (awake_any _).mono ?_
    rintro e w1 ⟨rfl, hb⟩
    have k1 := hb.size
    go_wp2_with fail
    refine (putNum_any none 0 0 0 [] a0 a2 w1 (Oct.nil _ _ _) (Nat.zero_le _) (Nat.zero_le _)).mono ?_
    rw [List.nil_append, HK.out]
    rintro e w2 ⟨A2, n2, c2, rfl, g21, g22, hO2, hb2⟩
    obtain rfl : n2 = 4 := by rw [← hO2.1, numOct_length]
    have HO2 := Lib.hid hO2
    have k2 := hb2.size
    clear hO2
    go_wp2_with fail
    refine (putNum_any none 0 0 0 [] a0 4 w2 (Oct.nil _ _ _) (Nat.zero_le _) (Nat.zero_le _)).mono ?_
    rw [List.nil_append, show widthK 4 = 4 from rfl]
    rintro e w3 ⟨A3, n3, c3, rfl, g31, g32, hO3, hb3⟩
    obtain rfl : n3 = 4 := by rw [← hO3.1, numOct_length]
    have HO3 := Lib.hid hO3
    have k3 := hb3.size
    clear hO3
    have O23 := Lib.hid (HO2.out.below hb3)
    have O33 := Lib.hid (HO3.out.cutA 0 c3 g31 (by omega))
    have u3 : Below w.heap.size w w3 := hb.trans ((hb2.trans (hb3.mono k2)).mono k1)
    have q1 := Lib.hid (conv_keep (c := c2) O23.out k3 (Below.refl w3.heap.size w3).drew es1)
    have q2 := Lib.hid (conv_keep (c := c3 - 0) O33.out (Nat.le_refl _) (Below.refl w3.heap.size w3).drew es2)
    have r1 := Lib.hid (run_cut_l A3 4 c3 0 0 rfl (by omega))
    go_wp2_with fail
    refine seq_start (by kernel_rfl) ?_
    refine seq_move 0 23 (.slice A2 4 c2) (.tmp 9) (by kernel_rfl) (by kernel_rfl) (by kernel_rfl) (by kernel_rfl) (by kernel_rfl) (fun _ _ _ h => h) (by kernel_rfl) ?_
    refine seq_len 1 24 A2 4 c2 (.tmp 23) #[22] (by kernel_rfl) (by kernel_rfl) (by kernel_rfl) (by kernel_rfl) (by kernel_rfl) (fun _ _ _ h => h) (by kernel_rfl) 22 _ rfl Try.underlying22 ?_
    refine seq_move 2 25 (.int .i64 4) (.tmp 8) (by kernel_rfl) (by kernel_rfl) (by kernel_rfl) (by kernel_rfl) (by kernel_rfl) (fun _ _ _ h => h) (by kernel_rfl) ?_
    refine seq_bin 3 26 (.bool false) (.int .i64 (4 : Nat)) (.int .i64 4) .neq 3 3 (.tmp 24) (.tmp 25) (by kernel_rfl) (by kernel_rfl) (by kernel_rfl) (by kernel_rfl) (by kernel_rfl) (fun _ _ _ h => h) (by kernel_rfl) (by kernel_rfl) ?_ ?_
    · intro w'; go_simp
    refine seq_move 4 27 (.bool false) (.tmp 26) (by kernel_rfl) (by kernel_rfl) (by kernel_rfl) (by kernel_rfl) (by kernel_rfl) (fun _ _ _ h => h) (by kernel_rfl) ?_
    refine seq_move 5 28 (.slice A3 4 c3) (.tmp 10) (by kernel_rfl) (by kernel_rfl) (by kernel_rfl) (by kernel_rfl) (by kernel_rfl) (fun _ _ _ h => h) (by kernel_rfl) ?_
    refine seq_len 6 29 A3 4 c3 (.tmp 28) #[22] (by kernel_rfl) (by kernel_rfl) (by kernel_rfl) (by kernel_rfl) (by kernel_rfl) (fun _ _ _ h => h) (by kernel_rfl) 22 _ rfl Try.underlying22 ?_
    refine seq_bin 7 30 (.bool false) (.int .i64 (4 : Nat)) (.int .i64 4) .neq 3 3 (.tmp 29) (.const (.int .i64 4)) (by kernel_rfl) (by kernel_rfl) (by kernel_rfl) (by kernel_rfl) (by kernel_rfl) (fun _ _ _ h => h) (by kernel_rfl) (by kernel_rfl) ?_ ?_
    · intro w'; go_simp
    refine seq_pick 8 31 (.bool false) (.tmp 27) (.const (.bool true)) (.tmp 30) false (by kernel_rfl) (by kernel_rfl) (by kernel_rfl) (by kernel_rfl) (by kernel_rfl) (fun _ _ _ h => h) (by kernel_rfl) (by kernel_rfl) ?_
    refine seq_move 9 32 (.bool false) (.tmp 31) (by kernel_rfl) (by kernel_rfl) (by kernel_rfl) (by kernel_rfl) (by kernel_rfl) (fun _ _ _ h => h) (by kernel_rfl) ?_
    refine seq_move 10 33 (.slice A2 4 c2) (.tmp 9) (by kernel_rfl) (by kernel_rfl) (by kernel_rfl) (by kernel_rfl) (by kernel_rfl) (fun _ _ _ h => h) (by kernel_rfl) ?_
    refine seq_convert 11 34 (.string s1) (.slice A2 4 c2) 22 9 (.tmp 33) (by kernel_rfl) (by kernel_rfl) (by kernel_rfl) (by kernel_rfl) (by kernel_rfl) (fun _ _ _ h => h) (by kernel_rfl) q1.out ?_
    refine seq_move 12 35 (.slice A3 4 c3) (.tmp 10) (by kernel_rfl) (by kernel_rfl) (by kernel_rfl) (by kernel_rfl) (by kernel_rfl) (fun _ _ _ h => h) (by kernel_rfl) ?_
    refine seq_move 13 36 (.int .i64 4) (.tmp 8) (by kernel_rfl) (by kernel_rfl) (by kernel_rfl) (by kernel_rfl) (by kernel_rfl) (fun _ _ _ h => h) (by kernel_rfl) ?_
    refine seq_bin 14 37 (.int .i64 0) (.int .i64 4) (.int .i64 4) .sub 3 3 (.const (.int .i64 4)) (.tmp 36) (by kernel_rfl) (by kernel_rfl) (by kernel_rfl) (by kernel_rfl) (by kernel_rfl) (fun _ _ _ h => h) (by kernel_rfl) (by kernel_rfl) ?_ ?_
    · intro w'; go_simp; rfl
    refine seq_slice 15 38 (.slice (cutA A3 0 c3) 4 (c3 - 0)) (.slice A3 4 c3) (.int .i64 0) 22 (.tmp 35) (.tmp 37) (by kernel_rfl) (by kernel_rfl) (by kernel_rfl) (by kernel_rfl) (by kernel_rfl) (fun _ _ _ h => h) (by kernel_rfl) (by kernel_rfl) ?_ ?_
    · intro w'; exact r1.out _
    refine seq_convert 16 39 (.string s1) (.slice (cutA A3 0 c3) 4 (c3 - 0)) 22 9 (.tmp 38) (by kernel_rfl) (by kernel_rfl) (by kernel_rfl) (by kernel_rfl) (by kernel_rfl) (fun _ _ _ h => h) (by kernel_rfl) q2.out ?_
    refine seq_bin 17 40 (.bool false) (.string s1) (.string s1) .neq 9 9 (.tmp 34) (.tmp 39) (by kernel_rfl) (by kernel_rfl) (by kernel_rfl) (by kernel_rfl) (by kernel_rfl) (fun _ _ _ h => h) (by kernel_rfl) (by kernel_rfl) ?_ ?_
    · intro w'; go_simp
    refine seq_pick 18 41 (.bool false) (.tmp 32) (.const (.bool true)) (.tmp 40) false (by kernel_rfl) (by kernel_rfl) (by kernel_rfl) (by kernel_rfl) (by kernel_rfl) (fun _ _ _ h => h) (by kernel_rfl) (by kernel_rfl) ?_
    refine seq_done (by kernel_rfl) (by simp only [put_lit, List.set_cons_succ, List.set_cons_zero]; rfl) ?_ _
    go_wp2_with fail
    refine (getNum_any A2 4 c2 w2.heap.size _ a2 w3.drew (O23.out.below (Below.refl _ w3).drew) g21 g22).mono ?_
    rw [(nums_exact _ a2 4 HK.out (numOct_length a0 4)).1, (nums_exact _ a2 4 HK.out (numOct_length a0 4)).2.1, (nums_exact _ a2 4 HK.out (numOct_length a0 4)).2.2, HV.out]
    rintro e w4 ⟨A4, n4, c4, rfl, g41, g42, hO4, hb4⟩
    obtain rfl : n4 = 0 := hO4.1.symm
    have k4 := hb4.size
    have u4 : Below w.heap.size w w4 := u3.trans ((((Below.refl _ w3).drew.trans hb4)).mono u3.size)
    have O34 := Lib.hid (HO3.out.below ((Below.refl _ w3).drew.trans hb4))
    clear hO4 hb hb2 hb3 hb4 q1 q2 r1 O23 O33 HO2 HO3 HV HK hmx hmn
    by_cases n0 : a0 < 0
    · go_wp2
      go_ret
      exact ⟨rfl, u4⟩
    by_cases n1 : a1 < 0
    · go_wp2
      go_ret
      exact ⟨rfl, u4⟩
    by_cases n2 : 4294967296 ≤ a0
    · go_wp2
      go_ret
      exact ⟨rfl, u4⟩
    by_cases n3 : 4294967296 ≤ a1
    · go_wp2
      go_ret
      exact ⟨rfl, u4⟩
    have hless : Op.bytesLess s4.toList s5.toList = decide (a0 < a1) := by
      rw [← es4, ← es5, less_nums _ _ (numOct_bytes a0 4) (numOct_bytes a1 4), less_num (by omega) (by omega) (by omega) (by omega)]
    have q3 := Lib.hid (conv_keep (c := c3) O34.out k4 (Below.refl w4.heap.size w4).drew es4)
    go_wp2_with fail
    refine seq_start (by kernel_rfl) ?_
    refine seq_move 0 82 (.bool true) (.tmp 7) (by kernel_rfl) (by kernel_rfl) (by kernel_rfl) (by kernel_rfl) (by kernel_rfl) (fun _ _ _ h => h) (by kernel_rfl) ?_
    refine seq_move 1 83 (.bool true) (.tmp 82) (by kernel_rfl) (by kernel_rfl) (by kernel_rfl) (by kernel_rfl) (by kernel_rfl) (fun _ _ _ h => h) (by kernel_rfl) ?_
    refine seq_move 2 84 (.slice A3 4 c3) (.tmp 10) (by kernel_rfl) (by kernel_rfl) (by kernel_rfl) (by kernel_rfl) (by kernel_rfl) (fun _ _ _ h => h) (by kernel_rfl) ?_
    refine seq_convert 3 85 (.string s4) (.slice A3 4 c3) 22 9 (.tmp 84) (by kernel_rfl) (by kernel_rfl) (by kernel_rfl) (by kernel_rfl) (by kernel_rfl) (fun _ _ _ h => h) (by kernel_rfl) q3.out ?_
    refine seq_move 4 86 (.int .i64 a1) (.tmp 1) (by kernel_rfl) (by kernel_rfl) (by kernel_rfl) (by kernel_rfl) (by kernel_rfl) (fun _ _ _ h => h) (by kernel_rfl) ?_
    refine seq_move 8 90 (.int .i64 a0) (.tmp 0) (by kernel_rfl) (by kernel_rfl) (by kernel_rfl) (by kernel_rfl) (by kernel_rfl) (fun _ _ _ h => h) (by kernel_rfl) ?_
    refine seq_move 9 91 (.int .i64 a1) (.tmp 1) (by kernel_rfl) (by kernel_rfl) (by kernel_rfl) (by kernel_rfl) (by kernel_rfl) (fun _ _ _ h => h) (by kernel_rfl) ?_
    refine seq_bin 10 92 (.bool (decide (a0 < a1))) (.int .i64 a0) (.int .i64 a1) .lss 3 3 (.tmp 90) (.tmp 91) (by kernel_rfl) (by kernel_rfl) (by kernel_rfl) (by kernel_rfl) (by kernel_rfl) (fun _ _ _ h => h) (by kernel_rfl) (by kernel_rfl) ?_ ?_
    · intro w'; go_simp
    refine seq_call 5 87 19 #[.const (.slice none 0 0), .tmp 86, .const (.int .i64 4)] #[22, 3, 3] #[.slice none 0 0, .int .i64 a1, .int .i64 4] (by kernel_rfl) (by kernel_rfl) (by kernel_rfl) (by kernel_rfl) (by kernel_rfl) ?_
    refine (putNum_any none 0 0 0 [] a1 4 w4.drew (Oct.nil _ _ _) (Nat.zero_le _) (Nat.zero_le _)).mono ?_
    rw [List.nil_append, show widthK 4 = 4 from rfl]
    rintro e w5 ⟨A5, n5, c5, rfl, g51, g52, hO5, hb5⟩
    obtain rfl : n5 = 4 := by rw [← hO5.1, numOct_length]
    refine ⟨_, rfl, hb5, ?_⟩
    have q5 := Lib.hid (conv_keep (c := c5) hO5 (Nat.le_refl _) (Below.refl w5.heap.size w5) es5)
    have u5 : Below w.heap.size w w5 := u4.drew.trans (hb5.mono u4.size)
    clear hO5
    refine seq_convert 6 88 (.string s5) (.slice A5 4 c5) 22 9 (.tmp 87) (by kernel_rfl) (by kernel_rfl) (by kernel_rfl) (by kernel_rfl) (by kernel_rfl) (fun _ _ _ h => h) (by kernel_rfl) q5.out ?_
    refine seq_bin 7 89 (.bool (decide (a0 < a1))) (.string s4) (.string s5) .lss 9 9 (.tmp 85) (.tmp 88) (by kernel_rfl) (by kernel_rfl) (by kernel_rfl) (by kernel_rfl) (by kernel_rfl) (fun _ _ _ h => h) (by kernel_rfl) (by kernel_rfl) ?_ ?_
    · intro w'; go_simp
    refine seq_bin 11 93 (.bool true) (.bool (decide (a0 < a1))) (.bool (decide (a0 < a1))) .eql 4 4 (.tmp 89) (.tmp 92) (by kernel_rfl) (by kernel_rfl) (by kernel_rfl) (by kernel_rfl) (by kernel_rfl) (fun _ _ _ h => h) (by kernel_rfl) (by kernel_rfl) ?_ ?_
    · intro w'; go_simp
    refine seq_pick 12 94 (.bool true) (.tmp 83) (.tmp 93) (.const (.bool false)) true (by kernel_rfl) (by kernel_rfl) (by kernel_rfl) (by kernel_rfl) (by kernel_rfl) (fun _ _ _ h => h) (by kernel_rfl) (by kernel_rfl) ?_
    refine seq_assign 13 6 (.bool true) (.tmp 94) (by kernel_rfl) (by kernel_rfl) (by kernel_rfl) (by kernel_rfl) (by kernel_rfl) (fun _ _ _ h => h) (by kernel_rfl) ?_
    refine seq_done (by kernel_rfl) (by simp only [put_lit, List.set_cons_succ, List.set_cons_zero]; rfl) ?_ _
    go_wp2
    go_ret
    exact ⟨by kernel_rfl, u5⟩

set_option maxRecDepth 100000 in
theorem lifted (os : Os) (started : os.Started) (H : Type) (enc : TypeId × Value → H) :
    ReturnsInHanded {} Try.checked os 7 .any (Rows.wireNumsSpec.pre6 enc Try.prog Try.f7 Rows.wireNumsRow.domain false) (Rows.wireNumsSpec.post enc Try.prog Try.f7 false true false false) := by
  refine returnsInHanded_of_change (C := Try.checked) own started (by kernel_rfl) Try.func7
    (ChangeSpec.witness6 (enc := enc) (C := Try.checked) false ⟨#[], #[.int .i64 0, .int .i64 0, .int .i64 0], []⟩ 8 (by kernel_rfl) (by kernel_rfl) (by kernel_rfl) (by kernel_rfl)) ?_
  intro W base args ds gs before hval0 hW hcnd _
  have hval : ∀ (j : Nat) t v, Try.f7.params[j]? = some t → args[j]? = some v → Value.okWide Try.prog W .any base t v := hval0
  have hW' := hW
  obtain ⟨p, q, hA0, hV, rfl, hfz, hnd⟩ := hW
  have hA : DataW.TrodAll enc Try.prog W 0 (fun _ => true) true Try.f7.params.toList args.toList ds p := hA0
  rw [Try.params7] at hA hval
  obtain ⟨v0, vs0, d0, ds0, p0, q0, hargs, rfl, rfl, h0, r0⟩ := trodAll_cons hA
  obtain ⟨v1, vs1, d1, ds1, p1, q1, rfl, rfl, rfl, h1, r1⟩ := trodAll_cons r0
  obtain ⟨v2, vs2, d2, ds2, p2, q2, rfl, rfl, rfl, h2, r2⟩ := trodAll_cons r1
  obtain ⟨rfl, rfl, rfl⟩ := trodAll_nil r2
  obtain rfl : args = #[v0, v1, v2] := by cases args; simp_all
  obtain ⟨rfl, rfl⟩ := trodVars_none hV
  obtain ⟨a0, rfl, rfl, rfl, w0⟩ := open_int Try.underlying3 (hval 0 3 v0 rfl rfl) h0
  obtain ⟨a1, rfl, rfl, rfl, w1⟩ := open_int Try.underlying3 (hval 1 3 v1 rfl rfl) h1
  obtain ⟨a2, rfl, rfl, rfl, w2⟩ := open_int Try.underlying3 (hval 2 3 v2 rfl rfl) h2
  clear hA0 hval0
  simp only [List.append_nil] at hW'
  refine (walk a0 a1 a2 w0 w1 w2 W).mono fun e W' ⟨he, bel⟩ => ?_
  subst he
  exact ⟨_, rfl, _, _, _, [], _, [], hW', trodAll_mk1 (shut_bool Try.underlying4 _), (trodAll_cons_mk (shut_int Try.underlying3 w0) (trodAll_cons_mk (shut_int Try.underlying3 w1) (trodAll_cons_mk (shut_int Try.underlying3 w2) trodAll_mk0))), rfl, bel.frame _, fun h => by cases h⟩

theorem over : Rows.wireNumsRow.holds Try.pinned (OpenSpec.ofChange Rows.wireNumsSpec) :=
  OpenClaim.holds_of_wide 7 Try.f7 rfl rfl rfl rfl rfl rfl rfl ⟨rfl, rfl, rfl, rfl, rfl⟩ rfl rfl rfl rfl rfl (by kernel_rfl) Try.func7 (by kernel_rfl)
    (of_decide_eq_true (by kernel_rfl)) (by unfold Func.isWrapper; first | (rw [if_pos (by decide +kernel)]; kernel_rfl) | (rw [if_neg (by decide +kernel)]; exact ⟨rfl, rfl⟩))
    (fun os started H enc _ => lifted os started H enc)

end wireNums

theorem wireNums_holds : Rows.WireNumsSaid := wireNums.over
end Go.Proofs.Ytonlkmepdehdgaa
