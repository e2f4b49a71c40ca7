/-
  Contracts of the document's own answers for layer 2 that put: PutNum, PutFlag, PutBytes, PutNums.
-/
import Derived.Test.YtakbbenegojcdaaWiRef
namespace Go.Proofs.Ytakbbenegojcdaa
open Go.ChangeShapes Go.WideShapes Go.ChangeAt Go.RowKit
set_option linter.unusedVariables false

theorem rputNum_any (A : Option Addr) (n c B : Nat) (xs : List Int) (m k : Int) (w : World) (hO : Oct w B A n xs) (hB : B ≤ w.heap.size) (hn : n ≤ 100000) :
    Calls Try.prog 31 #[.slice A n c, .int .i64 m, .int .i64 k] w (PutSl w (xs ++ numOct m (widthK k))) := by
  have hk := widthK_le k
  have HX := Lib.hid hO.2.1
  have HL := Lib.hid hO.1
  have OW : Hid ((w.alloc (.cells #[] 5)).ownsRow w.heap.size 5 1 (.slice (some ⟨w.heap.size, 0, none⟩) 0 0) 0 []) :=
    ⟨rfl, .inr ⟨w.heap.size, 0, #[], rfl, Nat.le_refl _, heap_alloc_new w _, Nat.le_refl _, Nat.zero_le _, rfl, rfl⟩⟩
  have HO := Lib.hid hO
  clear hO
  obtain ⟨K, hK⟩ : ∃ K, widthK k = K := ⟨_, rfl⟩
  have HK := Lib.hid hK
  rw [hK] at hk ⊢
  clear hK
  have HN := Lib.hid (numOct_length m K)
  have hxl : xs.length ≤ 100000 := by rw [HL.out]; exact hn
  go_enter Try.func31, Try.ntmps31
  go_wp2_with (first
    | (at_builtin
       refine wpList_append_oct _ rfl (.tmp 9) (.tmp 10) rfl rfl w.heap.size (.slice (some ⟨w.heap.size, 0, none⟩) 0 0) [] xs A n c B rfl rfl ?hown ?hO ?hb ?hbase ?_
       case hown => exact OW.out
       case hO => exact HO.out.below (((Below.refl _ _).alloc (Nat.le_refl _) _).mono hB)
       case hb => simp; omega
       case hbase => simp
       intro v3 w3 hj3
       have hb3 := joined_below OW.out hj3 ((Below.refl _ _).alloc (Nat.le_refl _) _) (by simp)
       have h3 := hj3.1
       rw [List.nil_append, List.length_nil, Nat.zero_add] at h3
       have H3 := Lib.hid h3
       clear h3 hj3)
    | (go_at_call 37; refine (rcount_any _ _).mono ?_; rw [HK.out]; rintro e w' ⟨rfl, rfl⟩))
  go_loopw [7, 8] (fun u i w' => ∃ j : Nat, j ≤ K ∧ i = .int .i64 ((K : Int) - 1 - j) ∧ Hid (w'.ownsRow w.heap.size 5 1 u (xs.length + j) ((xs ++ (numOct m K).take j).map (Value.int .u8))) ∧ Below w.heap.size w w' ∧ w.heap.size ≤ w'.heap.size) (fun _ i _ => (intOf i + 1).toNat)
  case atStart => exact ⟨0, Nat.zero_le _, by go_num, Lib.hid (by simpa using H3.out), hb3.1, hb3.2⟩
  case round =>
    obtain ⟨j, hj, rfl, H1, hb1, hs1⟩ := hrel
    by_cases hlt : j < K
    · have HNN := Lib.hid (numOct_get m K j hlt)
      have HT : Hid ((xs ++ (numOct m K).take j).length = xs.length + j) := by
        show _ = _
        rw [List.length_append, List.length_take, HN.out]; omega
      obtain ⟨r, hr⟩ : ∃ r : Nat, K = j + r + 1 := ⟨K - 1 - j, by omega⟩
      have er : (K : Int) - 1 - j = (r : Int) := by omega
      have er2 : K - 1 - j = r := by omega
      rw [er]
      rw [er2] at HNN
      have hr1 : j + r + 1 ≤ K := by omega
      have hr2 : K ≤ j + r + 1 := by omega
      clear er er2 hr
      obtain ⟨y, hy⟩ : ∃ y, m / (2 : Int) ^ (8 * r) % 256 = y := ⟨_, rfl⟩
      have hA : bits .and .i64 (m / (2 : Int) ^ (8 * r)) 255 = y := by rw [and_255, hy]
      have hy1 : 0 ≤ y ∧ y ≤ 255 := by omega
      rw [hy] at HNN
      clear hy
      have hr3 : r ≤ 3 := by omega
      go_wp2_with (at_builtin
                   refine wpList_append_oct _ rfl (.tmp 19) (.tmp 27) rfl rfl w.heap.size _ (xs ++ (numOct m K).take j) [y] (some ⟨wr.heap.size, 0, none⟩) 1 1 (wr.heap.size + 1) rfl rfl ?hown ?hO ?hb ?hbase ?_
                   case hown => rw [HT.out]; exact H1.out.alloc _
                   case hO => exact Oct.new wr [y] (by intro z hz; simp only [List.mem_cons, List.not_mem_nil, or_false] at hz; omega)
                   case hb => rw [HT.out]; omega
                   case hbase => simp; omega
                   intro v4 w4 hj4
                   have hb4 := joined_below (H1.out.alloc _) hj4 (hb1.alloc hs1 _) (by simp; omega)
                   have h4 := hj4.1
                   rw [List.append_assoc, ← HNN.out, HT.out] at h4
                   have H4 := Lib.hid h4
                   clear h4 hj4)
      go_roundw
      case rel => exact ⟨j + 1, by omega, by go_num, H4, hb4.1, hb4.2⟩
      case measure => simp [intOf] <;> omega
    · obtain rfl : j = K := by omega
      have e : (numOct m j).take j = numOct m j := by
        conv => lhs; arg 1; rw [← HN.out]
        rw [List.take_length]
      rw [e] at H1
      clear e
      have ei : (j : Int) - 1 - j = -1 := by omega
      rw [ei]
      clear ei
      go_wp2
      go_ret
      have hy : ∀ y ∈ xs ++ numOct m j, 0 ≤ y ∧ y ≤ 255 := fun y hy => by
        rcases List.mem_append.1 hy with h | h
        · exact HX.out y h
        · exact numOct_bytes m j y h
      obtain ⟨A5, c5, rfl, h1, h2, h3⟩ := own_sl H1.out hy
      exact ⟨A5, _, c5, rfl, h1, h2, h3, hb1⟩

theorem rputBytes_any (A A2 : Option Addr) (n c n2 c2 B : Nat) (xs vs : List Int) (w : World) (hO : Oct w B A n xs) (hV : Oct w B A2 n2 vs) (hB : B ≤ w.heap.size) (hn : n ≤ 90000) (hn2 : n2 ≤ 90000) :
    Calls Try.prog 30 #[.slice A n c, .slice A2 n2 c2] w (PutSl w (xs ++ bytesOct vs)) := by
  have HX := Lib.hid hO.2.1
  have HVb := Lib.hid hV.2.1
  have HL := Lib.hid hO.1
  have HL2 := Lib.hid hV.1
  have HB : Hid (bytesOct vs = octN (n2 : Int) ++ vs) := by show _ = _; rw [bytesOct_small (by rw [hV.1]; omega), hV.1]
  have OW : Hid ((w.alloc (.cells #[] 5)).ownsRow w.heap.size 5 1 (.slice (some ⟨w.heap.size, 0, none⟩) 0 0) 0 []) :=
    ⟨rfl, .inr ⟨w.heap.size, 0, #[], rfl, Nat.le_refl _, heap_alloc_new w _, Nat.le_refl _, Nat.zero_le _, rfl, rfl⟩⟩
  have HO := Lib.hid hO
  have HV := Lib.hid hV
  have h4 := octN_le (n2 : Int)
  clear hO hV
  go_enter Try.func30, Try.ntmps30
  go_wp2_with (first
    | (at_builtin
       refine wpList_append_oct _ rfl (.tmp 6) (.tmp 7) rfl rfl w.heap.size (.slice (some ⟨w.heap.size, 0, none⟩) 0 0) [] xs A n c B rfl rfl ?hown ?hO ?hb ?hbase ?_
       case hown => exact OW.out
       case hO => exact HO.out.below (((Below.refl _ _).alloc (Nat.le_refl _) _).mono hB)
       case hb => simp; omega
       case hbase => simp
       intro v3 w3 hj3
       have hb3 := joined_below OW.out hj3 ((Below.refl _ _).alloc (Nat.le_refl _) _) (by simp)
       have h3 := hj3.1
       rw [List.nil_append, List.length_nil, Nat.zero_add, HL.out] at h3
       obtain ⟨A3, c3, rfl, g31, g32, hO3⟩ := own_sl h3 HX.out
       have H3 := Lib.hid hO3
       clear h3 hj3 hO3)
    | (go_at_call 42
       refine (rputo_any A3 n c3 w3.heap.size xs (n2 : Int) w3 H3.out (Nat.le_refl _) (by omega)).mono ?_
       rintro e w4 ⟨v4, rfl, hw4, hb4, hs4⟩
       have H4 := Lib.hid hw4
       clear hw4)
    | (at_builtin
       refine wpList_append_oct _ rfl (.tmp 17) (.tmp 18) rfl rfl w3.heap.size v4 (xs ++ octN (n2 : Int)) vs A2 n2 c2 B rfl rfl ?hown ?hO ?hb ?hbase ?_
       case hown => exact H4.out
       case hO => exact HV.out.below ((hb3.1.trans (hb4.mono hb3.2)).mono hB)
       case hb => rw [List.length_append, HL.out]; omega
       case hbase => exact hs4
       intro v5 w5 hj5
       have hb5 := joined_below H4.out hj5 hb4 hs4
       have h5 := hj5.1
       rw [List.append_assoc, ← HB.out] at h5
       have H5 := Lib.hid h5
       clear h5 hj5))
  go_ret
  have hy : ∀ y ∈ xs ++ bytesOct vs, 0 ≤ y ∧ y ≤ 255 := fun y hy => by
    rcases List.mem_append.1 hy with h | h
    · exact HX.out y h
    · exact bytesOct_bytes HVb.out y h
  obtain ⟨A6, c6, rfl, h1, h2, h3⟩ := own_sl H5.out hy
  exact ⟨A6, _, c6, rfl, h1, h2, h3, hb3.1.trans (hb5.1.mono hb3.2)⟩

end Go.Proofs.Ytakbbenegojcdaa
