/-
  Contracts of wire.GetNum, wire.GetFlag and wire.GetBytes, for every slice of octets.
-/
import Derived.Test.YtakbbenegojcdaaWiPut
namespace Go.Proofs.Ytakbbenegojcdaa
open Go.ChangeShapes Go.WideShapes Go.ChangeAt Go.RowKit
set_option linter.unusedVariables false

theorem getNum_short (A : Option Addr) (n c K : Nat) (k : Int) (w : World) (hK : widthK k = K) (h : n < K) :
    Calls Try.prog 22 #[.slice A n c, .int .i64 k] w fun e w' => e = .returned (.tuple #[.int .i64 0, .slice none 0 0, .int .i64 1]) ∧ w = w' := by
  have HK := Lib.hid hK
  clear hK
  go_enter Try.func22, Try.ntmps22
  go_wp2_with fail
  refine (width_any _ _).mono ?_
  rw [HK.out]
  rintro e w' ⟨rfl, rfl⟩
  go_wp2
  go_ret3
  exact ⟨rfl, rfl⟩

theorem getNum_ok (A : Option Addr) (n c B K : Nat) (xs : List Int) (k : Int) (w : World) (hO : Oct w B A n xs) (hnc : n ≤ c) (hcm : c ≤ maxLen) (hK : widthK k = K) (h : K ≤ n) :
    Calls Try.prog 22 #[.slice A n c, .int .i64 k] w fun e w' => e = .returned (.tuple #[.int .i64 (numV (xs.take K)), .slice (cutA A K c) (n - K) (c - K), .int .i64 0]) ∧ ∃ d, w' = w.drewN d := by
  have hk4 : K ≤ 4 := by rw [← hK]; exact (widthK_le k).2
  have HK := Lib.hid hK
  have HO := Lib.hid (hO.upto K h)
  clear hK hO
  have r1 := run_cut_l A n c K K rfl h
  have r2 := run_cut_h A n c K K rfl (by omega)
  have h3 : decide (n < K) = false := by simp; omega
  go_enter Try.func22, Try.ntmps22
  go_wp2_with fail
  refine (width_any _ _).mono ?_
  rw [HK.out]
  rintro e w' ⟨rfl, rfl⟩
  go_wp2_with fail
  go_quiet ((go_at_call 35; exact quietLeft (read_any A K c B _ _ (HO.out.drewN _) hk4)))
  go_wp2
  go_ret3
  exact ⟨rfl, _, rfl⟩

/-- A number, the rest and an error are answered; nothing that was there has changed. -/
def GotInt (w : World) (B : Nat) (m : Int) (rs : List Int) (er : Int) (e : Ending) (w' : World) : Prop :=
  ∃ A n c, e = .returned (.tuple #[.int .i64 m, .slice A n c, .int .i64 er]) ∧ n ≤ c ∧ c ≤ maxLen ∧ Oct w' B A n rs ∧ Below w.heap.size w w'
/-- A flag, the rest and an error are answered; nothing that was there has changed. -/
def GotFlag (w : World) (B : Nat) (b : Bool) (rs : List Int) (er : Int) (e : Ending) (w' : World) : Prop :=
  ∃ A n c, e = .returned (.tuple #[.bool b, .slice A n c, .int .i64 er]) ∧ n ≤ c ∧ c ≤ maxLen ∧ Oct w' B A n rs ∧ Below w.heap.size w w'
/-- Octets, the rest and an error are answered; nothing that was there has changed. -/
def GotTwo (w : World) (B : Nat) (ps rs : List Int) (er : Int) (e : Ending) (w' : World) : Prop :=
  ∃ A1 n1 c1 A n c, e = .returned (.tuple #[.slice A1 n1 c1, .slice A n c, .int .i64 er]) ∧ n1 ≤ c1 ∧ c1 ≤ maxLen ∧ n ≤ c ∧ c ≤ maxLen ∧ Oct w' B A1 n1 ps ∧ Oct w' B A n rs ∧ Below w.heap.size w w'

def numE (xs : List Int) (k : Int) : Int := if xs.length < widthK k then 1 else 0
def numM (xs : List Int) (k : Int) : Int := if xs.length < widthK k then 0 else numV (xs.take (widthK k))
def numR (xs : List Int) (k : Int) : List Int := if xs.length < widthK k then [] else xs.drop (widthK k)

theorem getNum_any (A : Option Addr) (n c B : Nat) (xs : List Int) (k : Int) (w : World) (hO : Oct w B A n xs) (hnc : n ≤ c) (hcm : c ≤ maxLen) :
    Calls Try.prog 22 #[.slice A n c, .int .i64 k] w (GotInt w B (numM xs k) (numR xs k) (numE xs k)) := by
  have hl := hO.1
  by_cases h : n < widthK k
  · refine (getNum_short A n c _ k w rfl h).mono ?_
    rintro e w' ⟨rfl, rfl⟩
    rw [numM, numR, numE, if_pos (by omega), if_pos (by omega), if_pos (by omega)]
    exact ⟨none, 0, 0, rfl, Nat.le_refl _, Nat.zero_le _, Oct.nil _ _ _, Below.refl _ _⟩
  · refine (getNum_ok A n c B _ xs k w hO hnc hcm rfl (by omega)).mono ?_
    rintro e w' ⟨rfl, d, rfl⟩
    rw [numM, numR, numE, if_neg (by omega), if_neg (by omega), if_neg (by omega)]
    exact ⟨_, _, _, rfl, by omega, by omega, (hO.cutA _ c hnc (by omega)).drewN d, below_of_drewN w d⟩

def flagE (xs : List Int) : Int := if xs.length = 0 then 1 else if 1 < xs.headD 0 then 2 else 0
def flagB (xs : List Int) : Bool := xs.headD 0 == 1
def flagR (xs : List Int) : List Int := if flagE xs = 0 then xs.drop 1 else []

def bytesE (xs : List Int) : Int := if getE xs ≠ 0 then getE xs else if 1048576 < getV xs then 4 else if ((gotR xs).length : Int) < getV xs then 1 else 0
def bytesP (xs : List Int) : List Int := if bytesE xs = 0 then (gotR xs).take (getV xs).toNat else []
def bytesR (xs : List Int) : List Int := if bytesE xs = 0 then (gotR xs).drop (getV xs).toNat else []

theorem getV_nonneg (xs : List Int) (hx : ∀ x ∈ xs, 0 ≤ x ∧ x ≤ 255) : 0 ≤ getV xs := by
  unfold getV
  exact (valN_bd _ _ (fun y hy => hx y (List.mem_of_mem_tail (List.mem_of_mem_take hy))) (by rw [List.length_take]; have := getK_le xs; omega)).1

theorem getBytes_any (A : Option Addr) (n c B : Nat) (xs : List Int) (w : World) (hO : Oct w B A n xs) (hnc : n ≤ c) (hcm : c ≤ maxLen) (hB : B ≤ w.heap.size) :
    Calls Try.prog 20 #[.slice A n c] w (GotTwo w B (bytesP xs) (bytesR xs) (bytesE xs)) := by
  have HO := Lib.hid hO
  have hV := getV_nonneg xs hO.2.1
  clear hO
  by_cases hE : getE xs = 0
  · have hM : gotM xs = getV xs := by rw [gotM, if_pos hE]
    obtain ⟨V, hVn⟩ := Int.eq_ofNat_of_zero_le hV
    by_cases h1 : 1048576 < getV xs
    · have e1 : bytesE xs = 4 := by simp [bytesE, hE, h1]
      have e2 : bytesP xs = [] := by simp [bytesP, e1]
      have e3 : bytesR xs = [] := by simp [bytesR, e1]
      rw [e1, e2, e3]
      have Hc := Lib.hid (get_sl A n c B xs w HO.out hnc hcm)
      unfold GotSl at Hc
      rw [hE, hM, hVn] at Hc
      rw [hVn] at h1
      clear e1 e2 e3 hE hM hVn hV
      go_enter Try.func20, Try.ntmps20
      go_wp2_with fail
      refine Hc.out.mono ?_
      rintro e w' ⟨A1, n1, c1, rfl, hn1, hc1, hO1, hb1⟩
      clear hO1
      go_wp2
      go_ret3
      exact ⟨none, 0, 0, none, 0, 0, rfl, Nat.le_refl _, Nat.zero_le _, Nat.le_refl _, Nat.zero_le _, Oct.nil _ _ _, Oct.nil _ _ _, hb1⟩
    · by_cases h2 : ((gotR xs).length : Int) < getV xs
      · have e1 : bytesE xs = 1 := by simp [bytesE, hE, h1, h2]
        have e2 : bytesP xs = [] := by simp [bytesP, e1]
        have e3 : bytesR xs = [] := by simp [bytesR, e1]
        rw [e1, e2, e3]
        have Hc := Lib.hid (get_sl A n c B xs w HO.out hnc hcm)
        unfold GotSl at Hc
        rw [hE, hM, hVn] at Hc
        rw [hVn] at h1 h2
        clear e1 e2 e3 hE hM hVn hV
        go_enter Try.func20, Try.ntmps20
        go_wp2_with fail
        refine Hc.out.mono ?_
        rintro e w' ⟨A1, n1, c1, rfl, hn1, hc1, hO1, hb1⟩
        have h3 : n1 < V := by rw [← hO1.1]; omega
        clear hO1 h2
        go_wp2
        go_ret3
        exact ⟨none, 0, 0, none, 0, 0, rfl, Nat.le_refl _, Nat.zero_le _, Nat.le_refl _, Nat.zero_le _, Oct.nil _ _ _, Oct.nil _ _ _, hb1⟩
      · have e1 : bytesE xs = 0 := by simp [bytesE, hE, h1, h2]
        have e2 : bytesP xs = (gotR xs).take V := by simp [bytesP, e1, hVn]
        have e3 : bytesR xs = (gotR xs).drop V := by simp [bytesR, e1, hVn]
        rw [e1, e2, e3]
        have Hc := Lib.hid (get_sl A n c B xs w HO.out hnc hcm)
        unfold GotSl at Hc
        rw [hE, hM, hVn] at Hc
        rw [hVn] at h1 h2
        generalize gotR xs = rs at *
        clear e1 e2 e3 hE hM hVn hV
        go_enter Try.func20, Try.ntmps20
        go_wp2_with fail
        refine Hc.out.mono ?_
        rintro e w1 ⟨A1, n1, c1, rfl, hn1, hc1, hO1, hb1⟩
        have h3 : V ≤ n1 := by rw [← hO1.1]; omega
        have h4 : decide (n1 < V) = false := by simp; omega
        have h5 : decide ((1048576 : Int) < (V : Int)) = false := by simpa using h1
        have HO1 := Lib.hid hO1
        have r1 := run_cut_l A1 n1 c1 V V rfl h3
        have r2 := run_cut_hm A1 n1 c1 V V rfl (by omega)
        clear hO1 h2
        go_wp2_with fail
        go_quiet (fail)
        go_wp2
        go_ret3
        exact ⟨_, _, _, _, _, _, rfl, Nat.le_refl _, by omega, by omega, by omega, (HO1.out.upto V h3).drewN _, (HO1.out.cutA V c1 hn1 h3).drewN _, below_drewN hb1 _⟩
  · have e1 : bytesE xs = getE xs := by simp [bytesE, hE]
    have e2 : bytesP xs = [] := by simp [bytesP, e1, hE]
    have e3 : bytesR xs = [] := by simp [bytesR, e1, hE]
    rw [e1, e2, e3]
    have hne : (getE xs != 0) = true := by simpa using hE
    have Hc := Lib.hid (get_bad A n c B xs w HO.out hnc hcm hE)
    generalize getE xs = ee at *
    clear e1 e2 e3 hE hV
    go_enter Try.func20, Try.ntmps20
    go_wp2_with fail
    refine Hc.out.mono ?_
    rintro e w' ⟨rfl, rfl⟩
    go_wp2
    go_ret3
    exact ⟨none, 0, 0, none, 0, 0, rfl, Nat.le_refl _, Nat.zero_le _, Nat.le_refl _, Nat.zero_le _, Oct.nil _ _ _, Oct.nil _ _ _, Below.refl _ _⟩
end Go.Proofs.Ytakbbenegojcdaa
