/-
  Contracts of the document's own answers for layer 2 that get: count, GetNum, GetFlag, GetBytes; and its varint Put, with the row as the call's own.
-/
import Derived.Test.YtakbbenegojcdaaWiBits
import Derived.Test.YtakbbenegojcdaaVaRef
namespace Go.Proofs.Ytakbbenegojcdaa
open Go.ChangeShapes Go.WideShapes Go.ChangeAt Go.RowKit
set_option linter.unusedVariables false

theorem rcount_any (k : Int) (w : World) : Calls Try.prog 37 #[.int .i64 k] w fun e w' => e = .returned (.int .i64 (widthK k : Nat)) ∧ w = w' := by
  by_cases h : k < 1
  · have e : ((widthK k : Nat) : Int) = 1 := by unfold widthK; rw [if_pos h]; rfl
    rw [e]
    clear e
    go_enter Try.func37, Try.ntmps37
    go_wp2
    go_ret
    exact ⟨rfl, rfl⟩
  · by_cases h4 : 4 < k
    · have e : ((widthK k : Nat) : Int) = 4 := by unfold widthK; rw [if_neg h, if_pos h4]; rfl
      rw [e]
      clear e
      go_enter Try.func37, Try.ntmps37
      go_wp2
      all_goals (go_ret; exact ⟨rfl, rfl⟩)
    · have e : ((widthK k : Nat) : Int) = k := by unfold widthK; rw [if_neg h, if_neg h4]; omega
      rw [e]
      clear e
      have hc : k = 1 ∨ k = 2 ∨ k = 3 ∨ k = 4 := by omega
      clear h h4
      rcases hc with rfl | rfl | rfl | rfl
      all_goals
        go_enter Try.func37, Try.ntmps37
        go_wp2
        go_ret
        exact ⟨rfl, rfl⟩

theorem rgetNum_short (A : Option Addr) (n c K : Nat) (k : Int) (w : World) (hK : widthK k = K) (h : n < K) :
    Calls Try.prog 25 #[.slice A n c, .int .i64 k] w fun e w' => e = .returned (.tuple #[.int .i64 0, .slice none 0 0, .int .i64 1]) ∧ w = w' := by
  have HK := Lib.hid hK
  clear hK
  go_enter Try.func25, Try.ntmps25
  go_wp2_with fail
  refine (rcount_any _ _).mono ?_
  rw [HK.out]
  rintro e w' ⟨rfl, rfl⟩
  go_wp2
  go_ret3
  exact ⟨rfl, rfl⟩

theorem rgetNum_ok (A : Option Addr) (n c B K : Nat) (xs : List Int) (k : Int) (w : World) (hO : Oct w B A n xs) (hnc : n ≤ c) (hcm : c ≤ maxLen) (hK : widthK k = K) (h : K ≤ n) :
    Calls Try.prog 25 #[.slice A n c, .int .i64 k] w fun e w' => e = .returned (.tuple #[.int .i64 (numV (xs.take K)), .slice (cutA A K c) (n - K) (c - K), .int .i64 0]) ∧ ∃ d, w' = w.drewN d := by
  have hk4 := widthK_le k
  rw [hK] at hk4
  have r1 := run_cut_l A n c K K rfl h
  obtain ⟨hl, hb, hc⟩ := hO
  obtain ⟨b, o, rfl, hB, hc⟩ := hc (by omega)
  have Hl := Lib.hid hl
  have Hb := Lib.hid hb
  have Hc := Lib.hid hc
  have HK := Lib.hid hK
  clear hK hl hb hc
  have h3 : decide (n < K) = false := by simp; omega
  go_enter Try.func25, Try.ntmps25
  go_wp2_with fail
  refine (rcount_any _ _).mono ?_
  rw [HK.out]
  rintro e w' ⟨rfl, rfl⟩
  go_wp2_with fail
  go_loop [8, 9] (fun s i => ∃ j : Nat, j ≤ K ∧ i = .int .i64 j ∧ s = .int .i64 (numV (xs.take j))) (fun _ i => K - (intOf i).toNat)
  case atStart => exact ⟨0, Nat.zero_le _, rfl, by simp [numV]⟩
  case round =>
    obtain ⟨j, hj, rfl, rfl⟩ := hrel
    by_cases hlt : j < K
    · have hjl : j < xs.length := by rw [Hl.out]; omega
      have hcell := Hc.out j xs[j] (List.getElem?_eq_getElem hjl)
      have hb := Hb.out xs[j] (List.getElem_mem hjl)
      have hv := numV_bd (xs.take j) (fun z hz => Hb.out z (List.mem_of_mem_take hz)) (by rw [List.length_take]; omega)
      have HS := Lib.hid (numV_step xs j hjl)
      generalize xs[j] = y at *
      generalize hg : numV (xs.take j) = v at *
      have Hg := Lib.hid hg
      clear hg
      go_wp2
      go_round
      case rel => exact ⟨j + 1, by omega, by go_num, by rw [HS.out]⟩
      case measure => simp [intOf]; omega
    · obtain rfl : j = K := by omega
      go_wp2_with fail
      go_quiet (fail)
      go_wp2
      go_ret3
      exact ⟨rfl, _, rfl⟩

theorem rgetNum_any (A : Option Addr) (n c B : Nat) (xs : List Int) (k : Int) (w : World) (hO : Oct w B A n xs) (hnc : n ≤ c) (hcm : c ≤ maxLen) :
    Calls Try.prog 25 #[.slice A n c, .int .i64 k] w (GotInt w B (numM xs k) (numR xs k) (numE xs k)) := by
  have hl := hO.1
  by_cases h : n < widthK k
  · refine (rgetNum_short A n c _ k w rfl h).mono ?_
    rintro e w' ⟨rfl, rfl⟩
    rw [numM, numR, numE, if_pos (by omega), if_pos (by omega), if_pos (by omega)]
    exact ⟨none, 0, 0, rfl, Nat.le_refl _, Nat.zero_le _, Oct.nil _ _ _, Below.refl _ _⟩
  · refine (rgetNum_ok A n c B _ xs k w hO hnc hcm rfl (by omega)).mono ?_
    rintro e w' ⟨rfl, d, rfl⟩
    rw [numM, numR, numE, if_neg (by omega), if_neg (by omega), if_neg (by omega)]
    exact ⟨_, _, _, rfl, by omega, by omega, (hO.cutA _ c hnc (by omega)).drewN d, below_of_drewN w d⟩

theorem rget_sl (A : Option Addr) (n c B : Nat) (xs : List Int) (w : World) (hO : Oct w B A n xs) (hnc : n ≤ c) (hcm : c ≤ maxLen) : Calls Try.prog 36 #[.slice A n c] w (GotSl w B xs) := by
  by_cases hE : getE xs = 0
  · refine (rget_good A n c B xs w hO hnc hcm hE).mono ?_
    rintro e w' ⟨A', he, h, d, rfl⟩
    refine ⟨A', n - getK xs, c - getK xs, ?_, by omega, by omega, ?_, below_of_drewN w d⟩
    · rw [he, gotM, if_pos hE, hE]
    · rw [gotR, if_pos hE]; exact h.drewN d
  · refine (rget_bad A n c B xs w hO hnc hcm hE).mono ?_
    rintro e w' ⟨he, rfl⟩
    refine ⟨none, 0, 0, ?_, Nat.le_refl _, Nat.zero_le _, ?_, Below.refl _ _⟩
    · rw [he, gotM, if_neg hE]
    · rw [gotR, if_neg hE]; exact Oct.nil _ _ _

theorem rgetBytes_any (A : Option Addr) (n c B : Nat) (xs : List Int) (w : World) (hO : Oct w B A n xs) (hnc : n ≤ c) (hcm : c ≤ maxLen) (hB : B ≤ w.heap.size) :
    Calls Try.prog 24 #[.slice A n c] w (GotTwo w B (bytesP xs) (bytesR xs) (bytesE xs)) := by
  have HO := Lib.hid hO
  have hV := getV_nonneg xs hO.2.1
  clear hO
  by_cases hE : getE xs = 0
  · have hM : gotM xs = getV xs := by rw [gotM, if_pos hE]
    obtain ⟨V, hVn⟩ := Int.eq_ofNat_of_zero_le hV
    by_cases h1 : 1048576 < getV xs
    · have e1 : bytesE xs = 4 := by simp [bytesE, hE, h1]
      have e2 : bytesP xs = [] := by simp [bytesP, e1]
      have e3 : bytesR xs = [] := by simp [bytesR, e1]
      rw [e1, e2, e3]
      have Hc := Lib.hid (rget_sl A n c B xs w HO.out hnc hcm)
      unfold GotSl at Hc
      rw [hE, hM, hVn] at Hc
      rw [hVn] at h1
      clear e1 e2 e3 hE hM hVn hV
      go_enter Try.func24, Try.ntmps24
      go_wp2_with fail
      refine Hc.out.mono ?_
      rintro e w' ⟨A1, n1, c1, rfl, hn1, hc1, hO1, hb1⟩
      clear hO1
      go_wp2
      go_ret3
      exact ⟨none, 0, 0, none, 0, 0, rfl, Nat.le_refl _, Nat.zero_le _, Nat.le_refl _, Nat.zero_le _, Oct.nil _ _ _, Oct.nil _ _ _, hb1⟩
    · by_cases h2 : ((gotR xs).length : Int) < getV xs
      · have e1 : bytesE xs = 1 := by simp [bytesE, hE, h1, h2]
        have e2 : bytesP xs = [] := by simp [bytesP, e1]
        have e3 : bytesR xs = [] := by simp [bytesR, e1]
        rw [e1, e2, e3]
        have Hc := Lib.hid (rget_sl A n c B xs w HO.out hnc hcm)
        unfold GotSl at Hc
        rw [hE, hM, hVn] at Hc
        rw [hVn] at h1 h2
        clear e1 e2 e3 hE hM hVn hV
        go_enter Try.func24, Try.ntmps24
        go_wp2_with fail
        refine Hc.out.mono ?_
        rintro e w' ⟨A1, n1, c1, rfl, hn1, hc1, hO1, hb1⟩
        have h3 : n1 < V := by rw [← hO1.1]; omega
        clear hO1 h2
        go_wp2
        go_ret3
        exact ⟨none, 0, 0, none, 0, 0, rfl, Nat.le_refl _, Nat.zero_le _, Nat.le_refl _, Nat.zero_le _, Oct.nil _ _ _, Oct.nil _ _ _, hb1⟩
      · have e1 : bytesE xs = 0 := by simp [bytesE, hE, h1, h2]
        have e2 : bytesP xs = (gotR xs).take V := by simp [bytesP, e1, hVn]
        have e3 : bytesR xs = (gotR xs).drop V := by simp [bytesR, e1, hVn]
        rw [e1, e2, e3]
        have Hc := Lib.hid (rget_sl A n c B xs w HO.out hnc hcm)
        unfold GotSl at Hc
        rw [hE, hM, hVn] at Hc
        rw [hVn] at h1 h2
        generalize gotR xs = rs at *
        clear e1 e2 e3 hE hM hVn hV
        go_enter Try.func24, Try.ntmps24
        go_wp2_with fail
        refine Hc.out.mono ?_
        rintro e w1 ⟨A1, n1, c1, rfl, hn1, hc1, hO1, hb1⟩
        have h3 : V ≤ n1 := by rw [← hO1.1]; omega
        have h4 : decide (n1 < V) = false := by simp; omega
        have h5 : decide ((1048576 : Int) < (V : Int)) = false := by simpa using h1
        have HO1 := Lib.hid hO1
        have r1 := run_cut_l A1 n1 c1 V V rfl h3
        have r2 := run_cut_h A1 n1 c1 V V rfl (by omega)
        clear hO1 h2
        go_wp2_with fail
        go_quiet (fail)
        go_wp2
        go_ret3
        exact ⟨_, _, _, _, _, _, rfl, by omega, by omega, by omega, by omega, (HO1.out.upto V h3).drewN _, (HO1.out.cutA V c1 hn1 h3).drewN _, below_drewN hb1 _⟩
  · have e1 : bytesE xs = getE xs := by simp [bytesE, hE]
    have e2 : bytesP xs = [] := by simp [bytesP, e1, hE]
    have e3 : bytesR xs = [] := by simp [bytesR, e1, hE]
    rw [e1, e2, e3]
    have hne : (getE xs != 0) = true := by simpa using hE
    have Hc := Lib.hid (rget_bad A n c B xs w HO.out hnc hcm hE)
    generalize getE xs = ee at *
    clear e1 e2 e3 hE hV
    go_enter Try.func24, Try.ntmps24
    go_wp2_with fail
    refine Hc.out.mono ?_
    rintro e w' ⟨rfl, rfl⟩
    go_wp2
    go_ret3
    exact ⟨none, 0, 0, none, 0, 0, rfl, Nat.le_refl _, Nat.zero_le _, Nat.le_refl _, Nat.zero_le _, Oct.nil _ _ _, Oct.nil _ _ _, Below.refl _ _⟩

theorem rputo0 (A : Option Addr) (n c B : Nat) (xs : List Int) (m : Int) (w : World) (hO : Oct w B A n xs) (hB : B ≤ w.heap.size) (hn : n ≤ 100000) (h0 : m < 0 ∨ 1073741823 < m) :
    Calls Try.prog 42 #[.slice A n c, .int .i64 m] w (OwnSl w w.heap.size (xs ++ octN m)) := by
  have hs : sizeN m = 0 := sizeN_0 h0
  have HN : Hid (octN m = []) := by show octN m = _; unfold octN; rw [hs]; rfl
  have HX := Lib.hid hO.2.1
  have HL := Lib.hid hO.1
  have HY : Hid (∀ y ∈ xs ++ octN m, 0 ≤ y ∧ y ≤ 255) := fun y hy => by
    rcases List.mem_append.1 hy with h | h
    · exact HX.out y h
    · exact octN_bytes m y h
  have OW : Hid ((w.alloc (.cells #[] 5)).ownsRow w.heap.size 5 1 (.slice (some ⟨w.heap.size, 0, none⟩) 0 0) 0 []) :=
    ⟨rfl, .inr ⟨w.heap.size, 0, #[], rfl, Nat.le_refl _, heap_alloc_new w _, Nat.le_refl _, Nat.zero_le _, rfl, rfl⟩⟩
  have HO := Lib.hid hO
  clear hO
  go_enter Try.func42, Try.ntmps42
  go_wp2_with (first
    | (at_builtin
       refine wpList_append_oct _ rfl (.tmp 6) (.tmp 7) rfl rfl w.heap.size (.slice (some ⟨w.heap.size, 0, none⟩) 0 0) [] xs A n c B rfl rfl ?hown ?hO ?hb ?hbase ?_
       case hown => exact OW.out
       case hO => exact HO.out.below (((Below.refl _ _).alloc (Nat.le_refl _) _).mono hB)
       case hb => simp; omega
       case hbase => simp
       intro v3 w3 hj3
       have hb3 := joined_below OW.out hj3 ((Below.refl _ _).alloc (Nat.le_refl _) _) (by simp)
       have h3 := hj3.1
       rw [List.nil_append, List.length_nil, Nat.zero_add] at h3
       have H3 := Lib.hid h3
       clear h3 hj3)
    | (go_at_call 45; refine (rsize_any _ _).mono ?_; rintro e w' ⟨rfl, rfl⟩))
  go_ret
  rw [HN.out, List.append_nil]
  exact ⟨_, rfl, H3.out, hb3.1, hb3.2⟩

theorem rputo1 (A : Option Addr) (n c B : Nat) (xs : List Int) (m : Int) (w : World) (hO : Oct w B A n xs) (hB : B ≤ w.heap.size) (hn : n ≤ 100000) (h0 : 0 ≤ m) (h1 : m ≤ 63) :
    Calls Try.prog 42 #[.slice A n c, .int .i64 m] w (OwnSl w w.heap.size (xs ++ octN m)) := by
  have hs : sizeN m = 1 := sizeN_1 h0 h1
  have HN : Hid (octN m = [m]) := by show octN m = _; unfold octN; rw [hs]; rfl
  have HX := Lib.hid hO.2.1
  have HL := Lib.hid hO.1
  have HY : Hid (∀ y ∈ xs ++ octN m, 0 ≤ y ∧ y ≤ 255) := fun y hy => by
    rcases List.mem_append.1 hy with h | h
    · exact HX.out y h
    · exact octN_bytes m y h
  have OW : Hid ((w.alloc (.cells #[] 5)).ownsRow w.heap.size 5 1 (.slice (some ⟨w.heap.size, 0, none⟩) 0 0) 0 []) :=
    ⟨rfl, .inr ⟨w.heap.size, 0, #[], rfl, Nat.le_refl _, heap_alloc_new w _, Nat.le_refl _, Nat.zero_le _, rfl, rfl⟩⟩
  have HO := Lib.hid hO
  clear hO
  go_enter Try.func42, Try.ntmps42
  go_wp2_with (first
    | (at_builtin
       refine wpList_append_oct _ rfl (.tmp 6) (.tmp 7) rfl rfl w.heap.size (.slice (some ⟨w.heap.size, 0, none⟩) 0 0) [] xs A n c B rfl rfl ?hown ?hO ?hb ?hbase ?_
       case hown => exact OW.out
       case hO => exact HO.out.below (((Below.refl _ _).alloc (Nat.le_refl _) _).mono hB)
       case hb => simp; omega
       case hbase => simp
       intro v3 w3 hj3
       have hb3 := joined_below OW.out hj3 ((Below.refl _ _).alloc (Nat.le_refl _) _) (by simp)
       have h3 := hj3.1
       rw [List.nil_append, List.length_nil, Nat.zero_add] at h3
       have H3 := Lib.hid h3
       clear h3 hj3)
    | (go_at_call 45; refine (rsize_any _ _).mono ?_; rintro e w' ⟨rfl, rfl⟩)
    | (at_builtin
       refine wpList_append_oct _ rfl (.tmp 13) (.tmp 16) rfl rfl w.heap.size v3 xs [m] (some ⟨w3.heap.size, 0, none⟩) 1 1 (w3.heap.size + 1) rfl rfl ?hown ?hO ?hb ?hbase ?_
       case hown => exact H3.out.alloc _
       case hO => exact Oct.new w3 [m] (by rw [← HN.out]; exact octN_bytes m)
       case hb => rw [HL.out]; omega
       case hbase => have := hb3.2; simp; omega
       intro v4 w4 hj4
       have hb4 := joined_below (H3.out.alloc _) hj4 (hb3.1.alloc hb3.2 _) (by have := hb3.2; simp; omega)
       have h4 := hj4.1
       rw [← HN.out] at h4
       have H4 := Lib.hid h4
       clear h4 hj4))
  go_ret
  exact ⟨_, rfl, by rw [List.length_append]; exact H4.out, hb4.1, hb4.2⟩

theorem rputo2 (A : Option Addr) (n c B : Nat) (xs : List Int) (m : Int) (w : World) (hO : Oct w B A n xs) (hB : B ≤ w.heap.size) (hn : n ≤ 100000) (h0 : 63 < m) (h1 : m ≤ 16383) :
    Calls Try.prog 42 #[.slice A n c, .int .i64 m] w (OwnSl w w.heap.size (xs ++ octN m)) := by
  have hs : sizeN m = 2 := sizeN_2 h0 h1
  have HN : Hid (octN m = [64 + m / 256, m % 256]) := by show octN m = _; unfold octN; rw [hs]; rfl
  have HX := Lib.hid hO.2.1
  have HL := Lib.hid hO.1
  have HY : Hid (∀ y ∈ xs ++ octN m, 0 ≤ y ∧ y ≤ 255) := fun y hy => by
    rcases List.mem_append.1 hy with h | h
    · exact HX.out y h
    · exact octN_bytes m y h
  have OW : Hid ((w.alloc (.cells #[] 5)).ownsRow w.heap.size 5 1 (.slice (some ⟨w.heap.size, 0, none⟩) 0 0) 0 []) :=
    ⟨rfl, .inr ⟨w.heap.size, 0, #[], rfl, Nat.le_refl _, heap_alloc_new w _, Nat.le_refl _, Nat.zero_le _, rfl, rfl⟩⟩
  have HO := Lib.hid hO
  clear hO
  go_enter Try.func42, Try.ntmps42
  go_wp2_with (first
    | (at_builtin
       refine wpList_append_oct _ rfl (.tmp 6) (.tmp 7) rfl rfl w.heap.size (.slice (some ⟨w.heap.size, 0, none⟩) 0 0) [] xs A n c B rfl rfl ?hown ?hO ?hb ?hbase ?_
       case hown => exact OW.out
       case hO => exact HO.out.below (((Below.refl _ _).alloc (Nat.le_refl _) _).mono hB)
       case hb => simp; omega
       case hbase => simp
       intro v3 w3 hj3
       have hb3 := joined_below OW.out hj3 ((Below.refl _ _).alloc (Nat.le_refl _) _) (by simp)
       have h3 := hj3.1
       rw [List.nil_append, List.length_nil, Nat.zero_add] at h3
       have H3 := Lib.hid h3
       clear h3 hj3)
    | (go_at_call 45; refine (rsize_any _ _).mono ?_; rintro e w' ⟨rfl, rfl⟩)
    | (at_builtin
       refine wpList_append_oct _ rfl (.tmp 20) (.tmp 28) rfl rfl w.heap.size v3 xs [64 + m / 256, m % 256] (some ⟨w3.heap.size, 0, none⟩) 2 2 (w3.heap.size + 1) rfl rfl ?hown ?hO ?hb ?hbase ?_
       case hown => exact H3.out.alloc _
       case hO => exact Oct.new w3 [64 + m / 256, m % 256] (by rw [← HN.out]; exact octN_bytes m)
       case hb => rw [HL.out]; omega
       case hbase => have := hb3.2; simp; omega
       intro v4 w4 hj4
       have hb4 := joined_below (H3.out.alloc _) hj4 (hb3.1.alloc hb3.2 _) (by have := hb3.2; simp; omega)
       have h4 := hj4.1
       rw [← HN.out] at h4
       have H4 := Lib.hid h4
       clear h4 hj4))
  go_ret
  exact ⟨_, rfl, by rw [List.length_append]; exact H4.out, hb4.1, hb4.2⟩

theorem rputo4 (A : Option Addr) (n c B : Nat) (xs : List Int) (m : Int) (w : World) (hO : Oct w B A n xs) (hB : B ≤ w.heap.size) (hn : n ≤ 100000) (h0 : 16383 < m) (h1 : m ≤ 1073741823) :
    Calls Try.prog 42 #[.slice A n c, .int .i64 m] w (OwnSl w w.heap.size (xs ++ octN m)) := by
  have hs : sizeN m = 4 := sizeN_4 h0 h1
  have HN : Hid (octN m = [128 + m / 16777216, m / 65536 % 256, m / 256 % 256, m % 256]) := by show octN m = _; unfold octN; rw [hs]; rfl
  have HX := Lib.hid hO.2.1
  have HL := Lib.hid hO.1
  have HY : Hid (∀ y ∈ xs ++ octN m, 0 ≤ y ∧ y ≤ 255) := fun y hy => by
    rcases List.mem_append.1 hy with h | h
    · exact HX.out y h
    · exact octN_bytes m y h
  have OW : Hid ((w.alloc (.cells #[] 5)).ownsRow w.heap.size 5 1 (.slice (some ⟨w.heap.size, 0, none⟩) 0 0) 0 []) :=
    ⟨rfl, .inr ⟨w.heap.size, 0, #[], rfl, Nat.le_refl _, heap_alloc_new w _, Nat.le_refl _, Nat.zero_le _, rfl, rfl⟩⟩
  have HO := Lib.hid hO
  clear hO
  go_enter Try.func42, Try.ntmps42
  go_wp2_with (first
    | (at_builtin
       refine wpList_append_oct _ rfl (.tmp 6) (.tmp 7) rfl rfl w.heap.size (.slice (some ⟨w.heap.size, 0, none⟩) 0 0) [] xs A n c B rfl rfl ?hown ?hO ?hb ?hbase ?_
       case hown => exact OW.out
       case hO => exact HO.out.below (((Below.refl _ _).alloc (Nat.le_refl _) _).mono hB)
       case hb => simp; omega
       case hbase => simp
       intro v3 w3 hj3
       have hb3 := joined_below OW.out hj3 ((Below.refl _ _).alloc (Nat.le_refl _) _) (by simp)
       have h3 := hj3.1
       rw [List.nil_append, List.length_nil, Nat.zero_add] at h3
       have H3 := Lib.hid h3
       clear h3 hj3)
    | (go_at_call 45; refine (rsize_any _ _).mono ?_; rintro e w' ⟨rfl, rfl⟩)
    | (at_builtin
       refine wpList_append_oct _ rfl (.tmp 32) (.tmp 48) rfl rfl w.heap.size v3 xs [128 + m / 16777216, m / 65536 % 256, m / 256 % 256, m % 256] (some ⟨w3.heap.size, 0, none⟩) 4 4 (w3.heap.size + 1) rfl rfl ?hown ?hO ?hb ?hbase ?_
       case hown => exact H3.out.alloc _
       case hO => exact Oct.new w3 [128 + m / 16777216, m / 65536 % 256, m / 256 % 256, m % 256] (by rw [← HN.out]; exact octN_bytes m)
       case hb => rw [HL.out]; omega
       case hbase => have := hb3.2; simp; omega
       intro v4 w4 hj4
       have hb4 := joined_below (H3.out.alloc _) hj4 (hb3.1.alloc hb3.2 _) (by have := hb3.2; simp; omega)
       have h4 := hj4.1
       rw [← HN.out] at h4
       have H4 := Lib.hid h4
       clear h4 hj4))
  go_ret
  exact ⟨_, rfl, by rw [List.length_append]; exact H4.out, hb4.1, hb4.2⟩

theorem rputo_any (A : Option Addr) (n c B : Nat) (xs : List Int) (m : Int) (w : World) (hO : Oct w B A n xs) (hB : B ≤ w.heap.size) (hn : n ≤ 100000) : Calls Try.prog 42 #[.slice A n c, .int .i64 m] w (OwnSl w w.heap.size (xs ++ octN m)) := by
  rcases sizeN_cases m with h | h | h | h
  · exact rputo0 A n c B xs m w hO hB hn h.2
  · exact rputo1 A n c B xs m w hO hB hn h.2.1 h.2.2
  · exact rputo2 A n c B xs m w hO hB hn h.2.1 h.2.2
  · exact rputo4 A n c B xs m w hO hB hn h.2.1 h.2.2

end Go.Proofs.Ytakbbenegojcdaa
