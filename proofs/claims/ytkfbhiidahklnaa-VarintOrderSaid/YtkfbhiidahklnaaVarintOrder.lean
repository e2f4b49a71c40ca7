/-
  For every two ints the statement VarintOrder returns true: the greater one has no fewer octets, and of as many its octets are greater where they are first unlike; no condition.
-/
import Derived.Test.YtkfbhiidahklnaaRows
import Derived.Test.YtkfbhiidahklnaaApp
import Derived.WalkKit
import Derived.ProofKit
import Derived.OpenShut
import Derived.ShutString
import Derived.ChangeOld
import Derived.Below
namespace Go.Proofs.Ytkfbhiidahklnaa
namespace varintOrder
open Go.ChangeShapes Go.WideShapes Go.ChangeAt Go.RowKit
open Go.ChangeMaps (open_string shut_string)
set_option linter.unusedVariables false      -- a walk need not use every 'w<i>' (that an integer argument fits its kind)

theorem own : ownKnob Try.prog.godebug = none := by kernel_rfl

/-- The order of octets: of the first place where they are unlike. -/
def lessN : List Int → List Int → Bool
  | _, [] => false
  | [], _ :: _ => true
  | a :: x, b :: y => decide (a < b) || (decide (a = b) && lessN x y)

theorem lessN_nil (x : List Int) : lessN x [] = false := by cases x <;> rfl

theorem u8_lt {a b : Int} (ha : 0 ≤ a ∧ a ≤ 255) (hb : 0 ≤ b ∧ b ≤ 255) : (UInt8.ofNat a.toNat < UInt8.ofNat b.toNat) ↔ a < b := by
  rw [UInt8.lt_iff_toNat_lt, UInt8.toNat_ofNat', UInt8.toNat_ofNat', Nat.mod_eq_of_lt (by omega), Nat.mod_eq_of_lt (by omega)]
  omega
theorem u8_eq {a b : Int} (ha : 0 ≤ a ∧ a ≤ 255) (hb : 0 ≤ b ∧ b ≤ 255) : (UInt8.ofNat a.toNat = UInt8.ofNat b.toNat) ↔ a = b := by
  constructor
  · intro h
    have h := congrArg UInt8.toNat h
    rw [UInt8.toNat_ofNat', UInt8.toNat_ofNat', Nat.mod_eq_of_lt (by omega), Nat.mod_eq_of_lt (by omega)] at h
    omega
  · intro h
    rw [h]

theorem less_nums : ∀ (xs ys : List Int), (∀ x ∈ xs, 0 ≤ x ∧ x ≤ 255) → (∀ y ∈ ys, 0 ≤ y ∧ y ≤ 255) → Op.bytesLess (strOfNums xs).toList (strOfNums ys).toList = lessN xs ys := by
  intro xs ys hx hy
  rw [ByteArray.toList_eq, ByteArray.toList_eq, strOfNums_data, strOfNums_data]
  induction xs generalizing ys with
  | nil => cases ys <;> rfl
  | cons a x ih =>
    cases ys with
    | nil => rfl
    | cons b y =>
      have ha := hx a (by simp)
      have hb := hy b (by simp)
      have h := ih y (fun z hz => hx z (by simp [hz])) (fun z hz => hy z (by simp [hz]))
      simp only [List.map_cons, Op.bytesLess, lessN, h]
      have e1 : decide (UInt8.ofNat a.toNat < UInt8.ofNat b.toNat) = decide (a < b) := by rw [decide_eq_decide]; exact u8_lt ha hb
      have e2 : (UInt8.ofNat a.toNat == UInt8.ofNat b.toNat) = decide (a = b) := by
        rw [Bool.eq_iff_iff, beq_iff_eq, decide_eq_true_iff]; exact u8_eq ha hb
      rw [e1, e2]

theorem octN_cases (m : Int) : octN m = [] ∨ (octN m = [m] ∧ 0 ≤ m ∧ m ≤ 63) ∨ (octN m = [64 + m / 256, m % 256] ∧ 63 < m ∧ m ≤ 16383) ∨
    (octN m = [128 + m / 16777216, m / 65536 % 256, m / 256 % 256, m % 256] ∧ 16383 < m ∧ m ≤ 1073741823) := by
  unfold octN
  rcases sizeN_cases m with h | h | h | h
  · exact .inl (by rw [h.1]; rfl)
  · exact .inr (.inl ⟨by rw [h.1]; rfl, h.2⟩)
  · exact .inr (.inr (.inl ⟨by rw [h.1]; rfl, h.2⟩))
  · exact .inr (.inr (.inr ⟨by rw [h.1]; rfl, h.2⟩))

theorem order_less {a b : Int} (hab : a ≤ b) (hl : (octN a).length = (octN b).length) (h0 : (octN a).length ≠ 0) : lessN (octN a) (octN b) = decide (a < b) := by
  rcases octN_cases a with h | h | h | h
  · rw [h] at h0; simp at h0
  all_goals
    obtain ⟨ha, h1, h2⟩ := h
    rcases octN_cases b with k | k | k | k
    · rw [ha, k] at hl; simp at hl
    all_goals
      obtain ⟨hb, k1, k2⟩ := k
      rw [ha, hb] at hl ⊢
      first
        | (simp at hl; done)
        | (simp only [lessN]; rw [Bool.eq_iff_iff]; simp only [Bool.or_eq_true, Bool.and_eq_true, decide_eq_true_eq, Bool.false_eq_true, and_false, or_false] <;> omega)

theorem order_len {a b : Int} (hab : a ≤ b) (hb : (octN b).length ≠ 0) (ha : (octN a).length ≠ 0) : (octN a).length ≤ (octN b).length := by
  have la := octN_length a
  have lb := octN_length b
  rcases sizeN_cases a with h | h | h | h <;> rcases sizeN_cases b with k | k | k | k <;> rw [h.1] at la <;> rw [k.1] at lb <;> omega

theorem order_first {a b : Int} (ha : (octN a).length ≠ 0) (hl : (octN a).length < (octN b).length) : (octN a).headD 0 < (octN b).headD 0 := by
  rcases octN_cases a with h | h | h | h
  · rw [h] at ha; simp at ha
  all_goals
    obtain ⟨ea, h1, h2⟩ := h
    rcases octN_cases b with k | k | k | k
    · rw [ea, k] at hl; simp at hl
    all_goals
      obtain ⟨eb, k1, k2⟩ := k
      rw [ea, eb] at hl ⊢
      first
        | (simp at hl; done)
        | (simp only [List.headD_cons]; omega)

theorem oct_first {w : World} {B n : Nat} {A : Option Addr} {xs : List Int} (h : Oct w B A n xs) (hn : 0 < n) : ∃ b o, A = some ⟨b, o, none⟩ ∧ b < B ∧ w.cell? ⟨b, o, none⟩ = some (.int .u8 (xs.headD 0)) := by
  obtain ⟨b, o, e, hB, hc⟩ := h.2.2 hn
  refine ⟨b, o, e, hB, ?_⟩
  have hl := h.1
  cases xs with
  | nil => simp at hl; omega
  | cons x r => exact hc 0 x (by simp)

set_option maxHeartbeats 2000000 in
theorem walk (a0 : Int) (a1 : Int) (w0 : (Lit.int .i64 a0).wf = true) (w1 : (Lit.int .i64 a1).wf = true) (w : World) :
    Calls Try.prog 6 #[.int .i64 a0, .int .i64 a1] w fun e w' => e = .returned (.bool true) ∧ Below w.heap.size w w' := by
  clear w0 w1
  by_cases hab : a0 < a1
  · have hle : a0 ≤ a1 := by omega
    have HP := Lib.hid (And.intro (@order_len a0 a1 hle) (And.intro (@order_less a0 a1 hle) (@order_first a0 a1)))
    have hne : decide (a0 < a1) = (a0 != a1) := by rw [Bool.eq_iff_iff]; simp; omega
    have HNE := Lib.hid hne
    clear hne
    obtain ⟨L1, hL1⟩ : ∃ L, (octN a0).length = L := ⟨_, rfl⟩
    obtain ⟨L2, hL2⟩ : ∃ L, (octN a1).length = L := ⟨_, rfl⟩
    have H1 := Lib.hid hL1
    have H2 := Lib.hid hL2
    clear hL1 hL2
    by_cases z1 : L1 = 0
    · subst z1
      go_enter Try.func6, Try.ntmps6
      go_wp2_with fail
      refine (awake_any _).mono ?_
      rintro e w1 ⟨rfl, hb⟩
      go_wp2_with fail
      refine (put_new a0 _).mono ?_
      rw [H1.out]
      rintro e w2 ⟨A2, c2, rfl, hLc2, hc2, hO2, hb2⟩
      have HO2 := Lib.hid hO2
      clear hO2
      go_wp2_with fail
      refine (put_new a1 _).mono ?_
      rw [H2.out]
      rintro e w3 ⟨A3, c3, rfl, hLc3, hc3, hO3, hb3⟩
      have HO3 := Lib.hid hO3
      clear hO3
      have k1 := hb.size
      have k2 := hb2.size
      have k3 := hb3.size
      have q3 : Below w.heap.size w w3 := (hb.trans (hb2.mono k1)).trans (hb3.mono (by omega))
      have HO23 : Hid (Oct w3 w2.heap.size A2 _ (octN a0)) := HO2.out.below hb3
      go_wp2_with fail
      go_ret
      exact ⟨rfl, q3⟩
    · have z1' : ((L1 : Int) == 0) = false := by simp; omega
      by_cases z2 : L2 = 0
      · subst z2
        go_enter Try.func6, Try.ntmps6
        go_wp2_with fail
        refine (awake_any _).mono ?_
        rintro e w1 ⟨rfl, hb⟩
        go_wp2_with fail
        refine (put_new a0 _).mono ?_
        rw [H1.out]
        rintro e w2 ⟨A2, c2, rfl, hLc2, hc2, hO2, hb2⟩
        have HO2 := Lib.hid hO2
        clear hO2
        go_wp2_with fail
        refine (put_new a1 _).mono ?_
        rw [H2.out]
        rintro e w3 ⟨A3, c3, rfl, hLc3, hc3, hO3, hb3⟩
        have HO3 := Lib.hid hO3
        clear hO3
        have k1 := hb.size
        have k2 := hb2.size
        have k3 := hb3.size
        have q3 : Below w.heap.size w w3 := (hb.trans (hb2.mono k1)).trans (hb3.mono (by omega))
        have HO23 : Hid (Oct w3 w2.heap.size A2 _ (octN a0)) := HO2.out.below hb3
        go_wp2_with fail
        go_ret
        exact ⟨rfl, q3⟩
      · have z2' : ((L2 : Int) == 0) = false := by simp; omega
        have hL : L1 ≤ L2 := by
          have h := HP.out.1 (by rw [H2.out]; exact z2) (by rw [H1.out]; exact z1)
          rw [H1.out, H2.out] at h
          exact h
        have d1 : decide (L2 < L1) = false := by simp; omega
        have p1 : (0 : Int) < (L1 : Int) := by omega
        have p2 : (0 : Int) < (L2 : Int) := by omega
        by_cases hlt : L1 < L2
        · have d2 : decide (L1 < L2) = true := by simp; omega
          go_enter Try.func6, Try.ntmps6
          go_wp2_with fail
          refine (awake_any _).mono ?_
          rintro e w1 ⟨rfl, hb⟩
          go_wp2_with fail
          refine (put_new a0 _).mono ?_
          rw [H1.out]
          rintro e w2 ⟨A2, c2, rfl, hLc2, hc2, hO2, hb2⟩
          have HO2 := Lib.hid hO2
          clear hO2
          go_wp2_with fail
          refine (put_new a1 _).mono ?_
          rw [H2.out]
          rintro e w3 ⟨A3, c3, rfl, hLc3, hc3, hO3, hb3⟩
          have HO3 := Lib.hid hO3
          clear hO3
          have k1 := hb.size
          have k2 := hb2.size
          have k3 := hb3.size
          have q3 : Below w.heap.size w w3 := (hb.trans (hb2.mono k1)).trans (hb3.mono (by omega))
          have HO23 : Hid (Oct w3 w2.heap.size A2 _ (octN a0)) := HO2.out.below hb3
          obtain ⟨b2, o2, rfl, hB2, x2⟩ := oct_first HO23.out (by omega)
          obtain ⟨b3, o3, rfl, hB3, x3⟩ := oct_first HO3.out (by omega)
          have hxy := HP.out.2.2 (by rw [H1.out]; exact z1) (by rw [H1.out, H2.out]; exact hlt)
          generalize (octN a0).headD 0 = x at *
          generalize (octN a1).headD 0 = y at *
          have d3 : decide (y ≤ x) = false := by simp; omega
          go_wp2_with fail
          go_quiet (fail)
          go_wp2
          go_ret
          exact ⟨rfl, below_drewN q3 _⟩
        · obtain rfl : L1 = L2 := by omega
          have d2 : decide (L1 < L1) = false := by simp
          have hless := HP.out.2.1 (by rw [H1.out, H2.out]) (by rw [H1.out]; exact z1)
          rw [HNE.out, ← less_nums _ _ (octN_bytes _) (octN_bytes _)] at hless
          obtain ⟨s1, hs1⟩ : ∃ s, strOfNums (octN a0) = s := ⟨_, rfl⟩
          obtain ⟨s2, hs2⟩ : ∃ s, strOfNums (octN a1) = s := ⟨_, rfl⟩
          rw [hs1, hs2] at hless
          have HL := Lib.hid hless
          have S1 := Lib.hid hs1
          have S2 := Lib.hid hs2
          clear hless hs1 hs2
          go_enter Try.func6, Try.ntmps6
          go_wp2_with fail
          refine (awake_any _).mono ?_
          rintro e w1 ⟨rfl, hb⟩
          go_wp2_with fail
          refine (put_new a0 _).mono ?_
          rw [H1.out]
          rintro e w2 ⟨A2, c2, rfl, hLc2, hc2, hO2, hb2⟩
          have HO2 := Lib.hid hO2
          clear hO2
          go_wp2_with fail
          refine (put_new a1 _).mono ?_
          rw [H2.out]
          rintro e w3 ⟨A3, c3, rfl, hLc3, hc3, hO3, hb3⟩
          have HO3 := Lib.hid hO3
          clear hO3
          have k1 := hb.size
          have k2 := hb2.size
          have k3 := hb3.size
          have q3 : Below w.heap.size w w3 := (hb.trans (hb2.mono k1)).trans (hb3.mono (by omega))
          have HO23 : Hid (Oct w3 w2.heap.size A2 _ (octN a0)) := HO2.out.below hb3
          have t2 : ∀ d, (convert 22 9 (.slice A2 L1 c2)).run Try.prog (w3.drewN d) = .ok (.string s1) (w3.drewN d) := fun d => by rw [← S1.out]; exact (HO23.out.drewN d).str c2
          have t3 : ∀ d, (convert 22 9 (.slice A3 L1 c3)).run Try.prog (w3.drewN d) = .ok (.string s2) (w3.drewN d) := fun d => by rw [← S2.out]; exact (HO3.out.drewN d).str c3
          go_wp2_with fail
          go_quiet (fail)
          have hless := HL.out
          go_wp2
          go_ret
          
          exact ⟨rfl, below_drewN q3 _⟩
  · by_cases heq : a0 = a1
    · subst heq
      clear hab
      have hless : lessN (octN a0) (octN a0) = (a0 != a0) := by
        by_cases h0 : (octN a0).length = 0
        · have e : octN a0 = [] := List.eq_nil_of_length_eq_zero h0
          rw [e]; simp [lessN]
        · rw [order_less (Int.le_refl _) rfl h0]; simp
      rw [← less_nums _ _ (octN_bytes _) (octN_bytes _)] at hless
      obtain ⟨s1, hs1⟩ : ∃ s, strOfNums (octN a0) = s := ⟨_, rfl⟩
      rw [hs1] at hless
      have HL := Lib.hid hless
      have S1 := Lib.hid hs1
      clear hless hs1
      obtain ⟨L1, hL1⟩ : ∃ L, (octN a0).length = L := ⟨_, rfl⟩
      have H1 := Lib.hid hL1
      clear hL1
      by_cases z1 : L1 = 0
      · subst z1
        go_enter Try.func6, Try.ntmps6
        go_wp2_with fail
        refine (awake_any _).mono ?_
        rintro e w1 ⟨rfl, hb⟩
        go_wp2_with fail
        refine (put_new a0 _).mono ?_
        rw [H1.out]
        rintro e w2 ⟨A2, c2, rfl, hLc2, hc2, hO2, hb2⟩
        have HO2 := Lib.hid hO2
        clear hO2
        go_wp2_with fail
        refine (put_new a0 _).mono ?_
        rw [H1.out]
        rintro e w3 ⟨A3, c3, rfl, hLc3, hc3, hO3, hb3⟩
        have HO3 := Lib.hid hO3
        clear hO3
        have k1 := hb.size
        have k2 := hb2.size
        have k3 := hb3.size
        have q3 : Below w.heap.size w w3 := (hb.trans (hb2.mono k1)).trans (hb3.mono (by omega))
        have HO23 : Hid (Oct w3 w2.heap.size A2 _ (octN a0)) := HO2.out.below hb3
        go_wp2_with fail
        go_ret
        exact ⟨rfl, q3⟩
      · have z1' : ((L1 : Int) == 0) = false := by simp; omega
        have d2 : decide (L1 < L1) = false := by simp
        have p1 : (0 : Int) < (L1 : Int) := by omega
        go_enter Try.func6, Try.ntmps6
        go_wp2_with fail
        refine (awake_any _).mono ?_
        rintro e w1 ⟨rfl, hb⟩
        go_wp2_with fail
        refine (put_new a0 _).mono ?_
        rw [H1.out]
        rintro e w2 ⟨A2, c2, rfl, hLc2, hc2, hO2, hb2⟩
        have HO2 := Lib.hid hO2
        clear hO2
        go_wp2_with fail
        refine (put_new a0 _).mono ?_
        rw [H1.out]
        rintro e w3 ⟨A3, c3, rfl, hLc3, hc3, hO3, hb3⟩
        have HO3 := Lib.hid hO3
        clear hO3
        have k1 := hb.size
        have k2 := hb2.size
        have k3 := hb3.size
        have q3 : Below w.heap.size w w3 := (hb.trans (hb2.mono k1)).trans (hb3.mono (by omega))
        have HO23 : Hid (Oct w3 w2.heap.size A2 _ (octN a0)) := HO2.out.below hb3
        have t2 : ∀ d, (convert 22 9 (.slice A2 L1 c2)).run Try.prog (w3.drewN d) = .ok (.string s1) (w3.drewN d) := fun d => by rw [← S1.out]; exact (HO23.out.drewN d).str c2
        have t3 : ∀ d, (convert 22 9 (.slice A3 L1 c3)).run Try.prog (w3.drewN d) = .ok (.string s1) (w3.drewN d) := fun d => by rw [← S1.out]; exact (HO3.out.drewN d).str c3
        go_wp2_with fail
        go_quiet (fail)
        have hless := HL.out
        go_wp2
        go_ret
        
        exact ⟨rfl, below_drewN q3 _⟩
    · have hle : a1 ≤ a0 := by omega
      have HP := Lib.hid (And.intro (@order_len a1 a0 hle) (And.intro (@order_less a1 a0 hle) (@order_first a1 a0)))
      have hne : decide (a1 < a0) = (a0 != a1) := by rw [Bool.eq_iff_iff]; simp; omega
      have HNE := Lib.hid hne
      clear hne
      obtain ⟨L1, hL1⟩ : ∃ L, (octN a1).length = L := ⟨_, rfl⟩
      obtain ⟨L2, hL2⟩ : ∃ L, (octN a0).length = L := ⟨_, rfl⟩
      have H1 := Lib.hid hL1
      have H2 := Lib.hid hL2
      clear hL1 hL2
      by_cases z1 : L1 = 0
      · subst z1
        go_enter Try.func6, Try.ntmps6
        go_wp2_with fail
        refine (awake_any _).mono ?_
        rintro e w1 ⟨rfl, hb⟩
        go_wp2_with fail
        refine (put_new a1 _).mono ?_
        rw [H1.out]
        rintro e w2 ⟨A2, c2, rfl, hLc2, hc2, hO2, hb2⟩
        have HO2 := Lib.hid hO2
        clear hO2
        go_wp2_with fail
        refine (put_new a0 _).mono ?_
        rw [H2.out]
        rintro e w3 ⟨A3, c3, rfl, hLc3, hc3, hO3, hb3⟩
        have HO3 := Lib.hid hO3
        clear hO3
        have k1 := hb.size
        have k2 := hb2.size
        have k3 := hb3.size
        have q3 : Below w.heap.size w w3 := (hb.trans (hb2.mono k1)).trans (hb3.mono (by omega))
        have HO23 : Hid (Oct w3 w2.heap.size A2 _ (octN a1)) := HO2.out.below hb3
        go_wp2_with fail
        go_ret
        exact ⟨rfl, q3⟩
      · have z1' : ((L1 : Int) == 0) = false := by simp; omega
        by_cases z2 : L2 = 0
        · subst z2
          go_enter Try.func6, Try.ntmps6
          go_wp2_with fail
          refine (awake_any _).mono ?_
          rintro e w1 ⟨rfl, hb⟩
          go_wp2_with fail
          refine (put_new a1 _).mono ?_
          rw [H1.out]
          rintro e w2 ⟨A2, c2, rfl, hLc2, hc2, hO2, hb2⟩
          have HO2 := Lib.hid hO2
          clear hO2
          go_wp2_with fail
          refine (put_new a0 _).mono ?_
          rw [H2.out]
          rintro e w3 ⟨A3, c3, rfl, hLc3, hc3, hO3, hb3⟩
          have HO3 := Lib.hid hO3
          clear hO3
          have k1 := hb.size
          have k2 := hb2.size
          have k3 := hb3.size
          have q3 : Below w.heap.size w w3 := (hb.trans (hb2.mono k1)).trans (hb3.mono (by omega))
          have HO23 : Hid (Oct w3 w2.heap.size A2 _ (octN a1)) := HO2.out.below hb3
          go_wp2_with fail
          go_ret
          exact ⟨rfl, q3⟩
        · have z2' : ((L2 : Int) == 0) = false := by simp; omega
          have hL : L1 ≤ L2 := by
            have h := HP.out.1 (by rw [H2.out]; exact z2) (by rw [H1.out]; exact z1)
            rw [H1.out, H2.out] at h
            exact h
          have d1 : decide (L2 < L1) = false := by simp; omega
          have p1 : (0 : Int) < (L1 : Int) := by omega
          have p2 : (0 : Int) < (L2 : Int) := by omega
          by_cases hlt : L1 < L2
          · have d2 : decide (L1 < L2) = true := by simp; omega
            go_enter Try.func6, Try.ntmps6
            go_wp2_with fail
            refine (awake_any _).mono ?_
            rintro e w1 ⟨rfl, hb⟩
            go_wp2_with fail
            refine (put_new a1 _).mono ?_
            rw [H1.out]
            rintro e w2 ⟨A2, c2, rfl, hLc2, hc2, hO2, hb2⟩
            have HO2 := Lib.hid hO2
            clear hO2
            go_wp2_with fail
            refine (put_new a0 _).mono ?_
            rw [H2.out]
            rintro e w3 ⟨A3, c3, rfl, hLc3, hc3, hO3, hb3⟩
            have HO3 := Lib.hid hO3
            clear hO3
            have k1 := hb.size
            have k2 := hb2.size
            have k3 := hb3.size
            have q3 : Below w.heap.size w w3 := (hb.trans (hb2.mono k1)).trans (hb3.mono (by omega))
            have HO23 : Hid (Oct w3 w2.heap.size A2 _ (octN a1)) := HO2.out.below hb3
            obtain ⟨b2, o2, rfl, hB2, x2⟩ := oct_first HO23.out (by omega)
            obtain ⟨b3, o3, rfl, hB3, x3⟩ := oct_first HO3.out (by omega)
            have hxy := HP.out.2.2 (by rw [H1.out]; exact z1) (by rw [H1.out, H2.out]; exact hlt)
            generalize (octN a1).headD 0 = x at *
            generalize (octN a0).headD 0 = y at *
            have d3 : decide (y ≤ x) = false := by simp; omega
            go_wp2_with fail
            go_quiet (fail)
            go_wp2
            go_ret
            exact ⟨rfl, below_drewN q3 _⟩
          · obtain rfl : L1 = L2 := by omega
            have d2 : decide (L1 < L1) = false := by simp
            have hless := HP.out.2.1 (by rw [H1.out, H2.out]) (by rw [H1.out]; exact z1)
            rw [HNE.out, ← less_nums _ _ (octN_bytes _) (octN_bytes _)] at hless
            obtain ⟨s1, hs1⟩ : ∃ s, strOfNums (octN a1) = s := ⟨_, rfl⟩
            obtain ⟨s2, hs2⟩ : ∃ s, strOfNums (octN a0) = s := ⟨_, rfl⟩
            rw [hs1, hs2] at hless
            have HL := Lib.hid hless
            have S1 := Lib.hid hs1
            have S2 := Lib.hid hs2
            clear hless hs1 hs2
            go_enter Try.func6, Try.ntmps6
            go_wp2_with fail
            refine (awake_any _).mono ?_
            rintro e w1 ⟨rfl, hb⟩
            go_wp2_with fail
            refine (put_new a1 _).mono ?_
            rw [H1.out]
            rintro e w2 ⟨A2, c2, rfl, hLc2, hc2, hO2, hb2⟩
            have HO2 := Lib.hid hO2
            clear hO2
            go_wp2_with fail
            refine (put_new a0 _).mono ?_
            rw [H2.out]
            rintro e w3 ⟨A3, c3, rfl, hLc3, hc3, hO3, hb3⟩
            have HO3 := Lib.hid hO3
            clear hO3
            have k1 := hb.size
            have k2 := hb2.size
            have k3 := hb3.size
            have q3 : Below w.heap.size w w3 := (hb.trans (hb2.mono k1)).trans (hb3.mono (by omega))
            have HO23 : Hid (Oct w3 w2.heap.size A2 _ (octN a1)) := HO2.out.below hb3
            have t2 : ∀ d, (convert 22 9 (.slice A2 L1 c2)).run Try.prog (w3.drewN d) = .ok (.string s1) (w3.drewN d) := fun d => by rw [← S1.out]; exact (HO23.out.drewN d).str c2
            have t3 : ∀ d, (convert 22 9 (.slice A3 L1 c3)).run Try.prog (w3.drewN d) = .ok (.string s2) (w3.drewN d) := fun d => by rw [← S2.out]; exact (HO3.out.drewN d).str c3
            go_wp2_with fail
            go_quiet (fail)
            have hless := HL.out
            go_wp2
            go_ret
            
            exact ⟨rfl, below_drewN q3 _⟩

set_option maxRecDepth 100000 in
theorem lifted (os : Os) (started : os.Started) (H : Type) (enc : TypeId × Value → H) :
    ReturnsInHanded {} Try.checked os 6 .any (Rows.varintOrderSpec.pre6 enc Try.prog Try.f6 Rows.varintOrderRow.domain false) (Rows.varintOrderSpec.post enc Try.prog Try.f6 false true false false) := by
  refine returnsInHanded_of_change (C := Try.checked) own started (by kernel_rfl) Try.func6
    (ChangeSpec.witness6 (enc := enc) (C := Try.checked) false ⟨#[], #[.int .i64 0, .int .i64 0], []⟩ 8 (by kernel_rfl) (by kernel_rfl) (by kernel_rfl) (by kernel_rfl)) ?_
  intro W base args ds gs before hval0 hW hcnd _
  have hval : ∀ (j : Nat) t v, Try.f6.params[j]? = some t → args[j]? = some v → Value.okWide Try.prog W .any base t v := hval0
  have hW' := hW
  obtain ⟨p, q, hA0, hV, rfl, hfz, hnd⟩ := hW
  have hA : DataW.TrodAll enc Try.prog W 0 (fun _ => true) true Try.f6.params.toList args.toList ds p := hA0
  rw [Try.params6] at hA hval
  obtain ⟨v0, vs0, d0, ds0, p0, q0, hargs, rfl, rfl, h0, r0⟩ := trodAll_cons hA
  obtain ⟨v1, vs1, d1, ds1, p1, q1, rfl, rfl, rfl, h1, r1⟩ := trodAll_cons r0
  obtain ⟨rfl, rfl, rfl⟩ := trodAll_nil r1
  obtain rfl : args = #[v0, v1] := by cases args; simp_all
  obtain ⟨rfl, rfl⟩ := trodVars_none hV
  obtain ⟨a0, rfl, rfl, rfl, w0⟩ := open_int Try.underlying3 (hval 0 3 v0 rfl rfl) h0
  obtain ⟨a1, rfl, rfl, rfl, w1⟩ := open_int Try.underlying3 (hval 1 3 v1 rfl rfl) h1
  clear hA0 hval0
  simp only [List.append_nil] at hW'
  refine (walk a0 a1 w0 w1 W).mono fun e W' ⟨he, bel⟩ => ?_
  subst he
  exact ⟨_, rfl, _, _, _, [], _, [], hW', trodAll_mk1 (shut_bool Try.underlying4 _), (trodAll_cons_mk (shut_int Try.underlying3 w0) (trodAll_cons_mk (shut_int Try.underlying3 w1) trodAll_mk0)), rfl, bel.frame _, fun h => by cases h⟩

theorem over : Rows.varintOrderRow.holds Try.pinned (OpenSpec.ofChange Rows.varintOrderSpec) :=
  OpenClaim.holds_of_wide 6 Try.f6 rfl rfl rfl rfl rfl rfl rfl ⟨rfl, rfl, rfl, rfl, rfl⟩ rfl rfl rfl rfl rfl (by kernel_rfl) Try.func6 (by kernel_rfl)
    (of_decide_eq_true (by kernel_rfl)) (by unfold Func.isWrapper; first | (rw [if_pos (by decide +kernel)]; kernel_rfl) | (rw [if_neg (by decide +kernel)]; exact ⟨rfl, rfl⟩))
    (fun os started H enc _ => lifted os started H enc)

end varintOrder

theorem varintOrder_holds : Rows.VarintOrderSaid := varintOrder.over
end Go.Proofs.Ytkfbhiidahklnaa
