/-
  Contracts of wire.roomy, wire.lay, wire.PutNum and wire.PutFlag, for every slice of octets and every number.
-/
import Derived.Test.YtakbbenegojcdaaWiBase
namespace Go.Proofs.Ytakbbenegojcdaa
open Go.ChangeShapes Go.WideShapes Go.ChangeAt Go.RowKit
set_option linter.unusedVariables false

/-- The lowest k octets of a number, the highest first. -/
def numOct (n : Int) (k : Nat) : List Int := (List.range k).map fun i => n / (2 : Int) ^ (8 * (k - 1 - i)) % 256
theorem numOct_length (n : Int) (k : Nat) : (numOct n k).length = k := by simp [numOct]
theorem numOct_bytes (n : Int) (k : Nat) : ∀ y ∈ numOct n k, 0 ≤ y ∧ y ≤ 255 := by
  intro y hy
  simp only [numOct, List.mem_map] at hy
  obtain ⟨i, _, rfl⟩ := hy
  omega
theorem numOct_get (n : Int) (k j : Nat) (h : j < k) : (numOct n k).take (j + 1) = (numOct n k).take j ++ [n / (2 : Int) ^ (8 * (k - 1 - j)) % 256] := by
  rw [List.take_succ_eq_append_getElem (by rw [numOct_length]; exact h)]
  simp [numOct]

theorem roomy_any (A : Option Addr) (n c B k : Nat) (xs : List Int) (w : World) (hO : Oct w B A n xs) (hB : B ≤ w.heap.size) (hn : n ≤ 70368744177664) (hk : k ≤ 4) :
    Calls Try.prog 40 #[.slice A n c, .int .i64 k] w (OwnSl w w.heap.size xs) := by
  have hmk := make_row n k k rfl (by omega)
  obtain ⟨W1, hcp, how, hbw, hsz1⟩ := copy_row A n c B k xs w hO hB (by unfold maxLen; omega)
  have HL := Lib.hid hO.1
  have HOW := Lib.hid how
  clear hO how
  go_enter Try.func40, Try.ntmps40
  go_wp2
  go_ret
  exact ⟨_, rfl, by rw [HL.out]; exact HOW.out, hbw, by omega⟩

theorem lay_any (v : Value) (k base : Nat) (xs : List Int) (m : Int) (w0 w : World) (how : w.ownsRow base 5 1 v xs.length (xs.map (Value.int .u8))) (hbel : Below base w0 w) (hbase : base ≤ w.heap.size) (hn : xs.length ≤ 35184372088832) (hk : k ≤ 4) :
    Calls Try.prog 39 #[v, .int .i64 m, .int .i64 k] w (OwnSl w0 base (xs ++ numOct m k)) := by
  have HOW := Lib.hid how
  clear how
  have HL := Lib.hid (numOct_length m k)
  go_enter Try.func39, Try.ntmps39
  go_wp2
  go_loopw [0, 9] (fun u i w' => ∃ j : Nat, j ≤ k ∧ i = .int .i64 j ∧ Hid (w'.ownsRow base 5 1 u (xs.length + j) ((xs ++ (numOct m k).take j).map (Value.int .u8))) ∧ Below base w0 w' ∧ base ≤ w'.heap.size) (fun _ i _ => k - (intOf i).toNat)
  case atStart => exact ⟨0, Nat.zero_le _, rfl, Lib.hid (by simpa using HOW.out), hbel, hbase⟩
  case round =>
    obtain ⟨j, hj, rfl, H1, hb1, hs1⟩ := hrel
    by_cases hlt : j < k
    · have HN := Lib.hid (numOct_get m k j hlt)
      have HT : Hid ((xs ++ (numOct m k).take j).length = xs.length + j) := by
        show _ = _
        rw [List.length_append, List.length_take, HL.out]; omega
      go_wp2_with (at_builtin
                   refine wpList_append_oct _ rfl (.tmp 12) (.tmp 21) rfl rfl base _ (xs ++ (numOct m k).take j) [m / (2 : Int) ^ (8 * (k - 1 - j)) % 256] (some ⟨wr.heap.size, 0, none⟩) 1 1 (wr.heap.size + 1) rfl rfl ?hown ?hO ?hb ?hbase ?_
                   case hown => rw [HT.out]; exact H1.out.alloc _
                   case hO => exact Oct.new wr [m / (2 : Int) ^ (8 * (k - 1 - j)) % 256] (by intro y hy; simp only [List.mem_cons, List.not_mem_nil, or_false] at hy; omega)
                   case hb => rw [HT.out]; omega
                   case hbase => simp; omega
                   intro v4 w4 hj4
                   have hb4 := joined_below (H1.out.alloc _) hj4 (hb1.alloc hs1 _) (by simp; omega)
                   have h4 := hj4.1
                   rw [List.append_assoc, ← HN.out, HT.out] at h4
                   have H4 := Lib.hid h4
                   clear h4 hj4)
      go_roundw
      case rel => exact ⟨j + 1, by omega, by go_num, H4, hb4.1, hb4.2⟩
      case measure => simp [intOf]; omega
    · obtain rfl : j = k := by omega
      have e : (numOct m j).take j = numOct m j := by
        conv => lhs; arg 1; rw [← HL.out]
        rw [List.take_length]
      rw [e] at H1
      clear e
      go_wp2
      go_ret
      exact ⟨_, rfl, by rw [List.length_append, HL.out]; exact H1.out, hb1, hs1⟩

/-- What PutNum answers. -/
theorem putNum_any (A : Option Addr) (n c B : Nat) (xs : List Int) (m k : Int) (w : World) (hO : Oct w B A n xs) (hB : B ≤ w.heap.size) (hn : n ≤ 35184372088832) :
    Calls Try.prog 28 #[.slice A n c, .int .i64 m, .int .i64 k] w (PutSl w (xs ++ numOct m (widthK k))) := by
  have hk := (widthK_le k).2
  have HO := Lib.hid hO
  have HL := Lib.hid hO.1
  clear hO
  obtain ⟨K, hK⟩ : ∃ K, widthK k = K := ⟨_, rfl⟩
  have HK := Lib.hid hK
  rw [hK] at hk ⊢
  clear hK
  go_enter Try.func28, Try.ntmps28
  go_wp2_with fail
  refine (width_any _ _).mono ?_
  rw [HK.out]
  rintro e w' ⟨rfl, rfl⟩
  go_wp2_with fail
  refine (roomy_any A n c B K xs _ HO.out hB (by omega) hk).mono ?_
  rintro e w1 ⟨v1, rfl, how1, hb1, hs1⟩
  have HOW := Lib.hid how1
  clear how1
  go_wp2_with fail
  refine (lay_any v1 K w.heap.size xs m w _ HOW.out hb1 hs1 (by rw [HL.out]; exact hn) hk).mono ?_
  rintro e w2 ⟨v2, rfl, how2, hb2, hs2⟩
  have HOW2 := Lib.hid how2
  clear how2
  go_wp2
  go_ret
  have hy : ∀ y ∈ xs ++ numOct m K, 0 ≤ y ∧ y ≤ 255 := fun y hy => by
    rcases List.mem_append.1 hy with h | h
    · exact HO.out.2.1 y h
    · exact numOct_bytes m K y h
  obtain ⟨A3, c3, rfl, h1, h2, h3⟩ := own_sl HOW2.out hy
  exact ⟨A3, _, c3, rfl, h1, h2, h3, hb2⟩

/-- The octet of a flag. -/
def flagOct (b : Bool) : List Int := [if b then 1 else 0]

end Go.Proofs.Ytakbbenegojcdaa
