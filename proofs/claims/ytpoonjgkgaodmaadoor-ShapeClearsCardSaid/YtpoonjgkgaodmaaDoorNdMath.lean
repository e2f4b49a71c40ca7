/-
  What is put of nodes is got; what is got was put; what is summed up tells all: by pure means.
-/
import Derived.Test.YtpoonjgkgaodmaaDoorNdBase
namespace Go.Proofs.YtpoonjgkgaodmaaDoor
open Go.ChangeShapes Go.WideShapes Go.ChangeAt Go.RowKit
set_option linter.unusedVariables false

theorem ndSame_iff {L M : Nd} : NdSame L M ↔ L = M := by
  constructor
  · rintro ⟨h1, h2, h3⟩
    obtain ⟨a, b, c⟩ := L
    obtain ⟨a', b', c'⟩ := M
    simp only at h1 h2 h3
    rw [h1, lfSame_iff.1 h2, pnSame_iff.1 h3]
  · rintro rfl
    exact ⟨rfl, lfSame_iff.2 rfl, pnSame_iff.2 rfl⟩
theorem nd_same (L : Nd) : NdSame L L := ndSame_iff.2 rfl
theorem nd_cases {L : Nd} (h : ndCheck L = 0) : L = Nd.zero ∨ (L.kind = 1 ∧ L.inner = Pn.zero ∧ lfCheck L.leaf = 0) ∨ (L.kind = 2 ∧ L.leaf = Lf.zero ∧ pnCheck L.inner = 0) := by
  obtain ⟨k, l, n⟩ := L
  have h : (if k < 0 ∨ 2 < k then 7 else if (¬ k = 1 ∧ ¬ LfSame l Lf.zero) ∨ (¬ k = 2 ∧ ¬ PnSame n Pn.zero) then 2 else if k = 1 then lfCheck l else if k = 2 then pnCheck n else 0) = 0 := h
  split at h
  · omega
  rename_i hk
  split at h
  · omega
  rename_i hf
  split at h
  · rename_i h1
    have e2 : PnSame n Pn.zero := Decidable.not_not.1 fun q => hf (.inr ⟨by omega, q⟩)
    exact .inr (.inl ⟨h1, pnSame_iff.1 e2, h⟩)
  · rename_i h1
    have e1 : LfSame l Lf.zero := Decidable.not_not.1 fun q => hf (.inl ⟨h1, q⟩)
    split at h
    · rename_i h2
      exact .inr (.inr ⟨h2, lfSame_iff.1 e1, h⟩)
    · rename_i h2
      have e2 : PnSame n Pn.zero := Decidable.not_not.1 fun q => hf (.inr ⟨h2, q⟩)
      have e3 : k = 0 := by omega
      rw [lfSame_iff.1 e1, pnSame_iff.1 e2, e3]
      exact .inl rfl
theorem nd_ok1 {L : Nd} (h : L.kind = 1) (h2 : L.inner = Pn.zero) (h3 : lfCheck L.leaf = 0) : ndCheck L = 0 := by
  simp [ndCheck, h, h2, h3, pnSame_iff]
theorem nd_ok2 {L : Nd} (h : L.kind = 2) (h2 : L.leaf = Lf.zero) (h3 : pnCheck L.inner = 0) : ndCheck L = 0 := by
  simp [ndCheck, h, h2, h3, lfSame_iff]
theorem nd_zero : ndCheck Nd.zero = 0 := by decide
theorem numOct_one (n : Int) (h : 0 ≤ n ∧ n ≤ 255) : numOct n (widthK 1) = [n] := by
  rw [widthK1, numOct1, show n % 256 = n by omega]
theorem ndPut1 {L : Nd} (h : ndCheck L = 0) (k : L.kind = 1) : ndPut L = [1] ++ ([1] ++ lfPut L.leaf) := by
  rw [ndPut, ndAs_ok h, if_pos k, numOct_one 1 (by decide), List.append_assoc]; rfl
theorem ndPut2 {L : Nd} (h : ndCheck L = 0) (k : L.kind = 2) : ndPut L = [1] ++ ([2] ++ pnPut L.inner) := by
  rw [ndPut, ndAs_ok h, if_neg (by omega), if_pos k, numOct_one 2 (by decide), List.append_assoc]; rfl
theorem ndPut0 {L : Nd} (h : (ndAs L).kind = 0) : ndPut L = [0] := by
  rw [ndPut, if_neg (by omega), if_neg (by omega)]; rfl
theorem ndPut_no {L : Nd} (h : ¬ ndCheck L = 0) : ndPut L = [0] := ndPut0 (by rw [ndAs_no h])
theorem ndPut_zero : ndPut Nd.zero = [0] := ndPut0 (by rw [ndAs_ok nd_zero])
theorem flag1 (zs : List Int) : flagE ([1] ++ zs) = 0 ∧ flagB ([1] ++ zs) = true ∧ flagR ([1] ++ zs) = zs := flag_put true zs
theorem flag0 (zs : List Int) : flagE ([0] ++ zs) = 0 ∧ flagB ([0] ++ zs) = false ∧ flagR ([0] ++ zs) = zs := flag_put false zs
theorem num1 (n : Int) (zs : List Int) (h : 0 ≤ n ∧ n ≤ 255) : numE ([n] ++ zs) 1 = 0 ∧ numM ([n] ++ zs) 1 = n ∧ numR ([n] ++ zs) 1 = zs := by
  have := num1_put n zs h
  rwa [numOct_one n h] at this
theorem nd_get0 (zs : List Int) : ndGet ([0] ++ zs) = (0, Nd.zero, zs) := by
  obtain ⟨a1, a2, a3⟩ := flag0 zs
  rw [ndGet, if_neg (not_not_intro a1), if_pos (by rw [a2]; decide), a3]
theorem nd_get1 (zs : List Int) : ndGet ([1] ++ ([1] ++ zs)) = if ¬ (lfGet zs).1 = 0 then ((lfGet zs).1, Nd.zero, []) else (0, ⟨1, (lfGet zs).2.1, Pn.zero⟩, (lfGet zs).2.2) := by
  obtain ⟨a1, a2, a3⟩ := flag1 ([1] ++ zs)
  obtain ⟨b1, b2, b3⟩ := num1 1 zs (by decide)
  rw [ndGet, if_neg (not_not_intro a1), if_neg (not_not_intro a2), a3, if_neg (not_not_intro b1), if_pos b2, b3]
theorem nd_get2 (zs : List Int) : ndGet ([1] ++ ([2] ++ zs)) = if ¬ (pnGet zs).1 = 0 then ((pnGet zs).1, Nd.zero, []) else (0, ⟨2, Lf.zero, (pnGet zs).2.1⟩, (pnGet zs).2.2) := by
  obtain ⟨a1, a2, a3⟩ := flag1 ([2] ++ zs)
  obtain ⟨b1, b2, b3⟩ := num1 2 zs (by decide)
  rw [ndGet, if_neg (not_not_intro a1), if_neg (not_not_intro a2), a3, if_neg (not_not_intro b1), if_neg (by rw [b2]; decide), if_pos b2, b3]
theorem nd_backOk {L : Nd} (h : ndCheck L = 0) (zs : List Int) : ndGet (ndPut L ++ zs) = (0, L, zs) := by
  rcases nd_cases h with rfl | ⟨k, e, c⟩ | ⟨k, e, c⟩
  · rw [ndPut_zero, nd_get0]
  · rw [ndPut1 h k, List.append_assoc, List.append_assoc, nd_get1, lf_back c, if_neg (by simp)]
    obtain ⟨a, b, d⟩ := L
    simp only at k e
    rw [k, e]
  · rw [ndPut2 h k, List.append_assoc, List.append_assoc, nd_get2, pn_back c, if_neg (by simp)]
    obtain ⟨a, b, d⟩ := L
    simp only at k e
    rw [k, e]
theorem nd_backNo {L : Nd} (h : ¬ ndCheck L = 0) (zs : List Int) : ndGet (ndPut L ++ zs) = (0, Nd.zero, zs) := by
  rw [ndPut_no h, nd_get0]
theorem ndPut_pos (L : Nd) : 0 < (ndPut L).length := by
  by_cases h : ndCheck L = 0
  · rcases nd_cases h with rfl | ⟨k, e, c⟩ | ⟨k, e, c⟩
    · rw [ndPut_zero]; decide
    · rw [ndPut1 h k]; simp
    · rw [ndPut2 h k]; simp
  · rw [ndPut_no h]; decide
theorem nd_short (L : Nd) (k : Nat) (hk : k < (ndPut L).length) : ndGet ((ndPut L).take k) = (1, Nd.zero, []) := by
  match k, hk with
  | 0, _ => rw [List.take_zero]; rfl
  | k + 1, hk =>
    by_cases h : ndCheck L = 0
    · rcases nd_cases h with rfl | ⟨e, _, c⟩ | ⟨e, _, c⟩
      · rw [ndPut_zero] at hk; simp at hk
      · rw [ndPut1 h e] at hk ⊢
        match k, hk with
        | 0, _ => show ndGet [1] = _; rfl
        | k + 1, hk =>
          have hk : k < (lfPut L.leaf).length := by simpa using hk
          show ndGet ([1] ++ ([1] ++ (lfPut L.leaf).take k)) = _
          rw [nd_get1, lf_short c k hk, if_pos (by simp)]
      · rw [ndPut2 h e] at hk ⊢
        match k, hk with
        | 0, _ => show ndGet [1] = _; rfl
        | k + 1, hk =>
          have hk : k < (pnPut L.inner).length := by simpa using hk
          show ndGet ([1] ++ ([2] ++ (pnPut L.inner).take k)) = _
          rw [nd_get2, pn_short c k hk, if_pos (by simp)]
    · rw [ndPut_no h] at hk; simp at hk
theorem nd_err {xs : List Int} (h : ¬ (ndGet xs).1 = 0) : (ndGet xs).2 = (Nd.zero, []) := by
  unfold ndGet at h ⊢
  split
  · rfl
  · rename_i a
    rw [if_neg a] at h
    split
    · rename_i b
      rw [if_pos b] at h
      exact absurd rfl h
    · rename_i b
      rw [if_neg b] at h
      split
      · rfl
      · rename_i c
        rw [if_neg c] at h
        split
        · rename_i d
          rw [if_pos d] at h
          split
          · rfl
          · rename_i e
            rw [if_neg e] at h
            exact absurd rfl h
        · rename_i d
          rw [if_neg d] at h
          split
          · rename_i d
            rw [if_pos d] at h
            split
            · rfl
            · rename_i e
              rw [if_neg e] at h
              exact absurd rfl h
          · rfl
theorem nd_only {xs : List Int} (hx : Bytes xs) (h : (ndGet xs).1 = 0) : ndCheck (ndGet xs).2.1 = 0 ∧ ndPut (ndGet xs).2.1 ++ (ndGet xs).2.2 = xs := by
  by_cases h1 : flagE xs = 0
  · have e1 := flag_got xs hx h1
    by_cases h2 : flagB xs = true
    · rw [h2] at e1
      have e1 : [1] ++ flagR xs = xs := e1
      have hx1 : Bytes (flagR xs) := bytes_rest hx e1
      generalize flagR xs = ys at *
      subst e1
      by_cases h3 : numE ys 1 = 0
      · have e2 := num1_got ys hx1 h3
        have hx2 : Bytes (numR ys 1) := bytes_rest hx1 e2
        by_cases h4 : numM ys 1 = 1
        · rw [h4, numOct_one 1 (by decide)] at e2
          generalize numR ys 1 = zs at *
          subst e2
          rw [nd_get1] at h ⊢
          by_cases h5 : (lfGet zs).1 = 0
          · rw [if_neg (not_not_intro h5)]
            obtain ⟨c, e⟩ := lf_only hx2 h5
            have ok := nd_ok1 (L := ⟨1, (lfGet zs).2.1, Pn.zero⟩) rfl rfl c
            refine ⟨ok, ?_⟩
            rw [ndPut1 ok rfl, List.append_assoc, List.append_assoc]
            show [1] ++ ([1] ++ (lfPut (lfGet zs).2.1 ++ (lfGet zs).2.2)) = _
            rw [e]
          · rw [if_pos h5] at h
            exact absurd h h5
        · by_cases h4' : numM ys 1 = 2
          · rw [h4', numOct_one 2 (by decide)] at e2
            generalize numR ys 1 = zs at *
            subst e2
            rw [nd_get2] at h ⊢
            by_cases h5 : (pnGet zs).1 = 0
            · rw [if_neg (not_not_intro h5)]
              obtain ⟨c, e⟩ := pn_only hx2 h5
              have ok := nd_ok2 (L := ⟨2, Lf.zero, (pnGet zs).2.1⟩) rfl rfl c
              refine ⟨ok, ?_⟩
              rw [ndPut2 ok rfl, List.append_assoc, List.append_assoc]
              show [1] ++ ([2] ++ (pnPut (pnGet zs).2.1 ++ (pnGet zs).2.2)) = _
              rw [e]
            · rw [if_pos h5] at h
              exact absurd h h5
          · obtain ⟨a1, a2, a3⟩ := flag1 ys
            rw [ndGet, if_neg (not_not_intro a1), if_neg (not_not_intro a2), a3, if_neg (not_not_intro h3), if_neg h4, if_neg h4'] at h
            exact absurd h (by decide)
      · obtain ⟨a1, a2, a3⟩ := flag1 ys
        rw [ndGet, if_neg (not_not_intro a1), if_neg (not_not_intro a2), a3, if_pos h3] at h
        exact absurd h h3
    · have h2' : flagB xs = false := by simpa using h2
      rw [h2'] at e1
      have e1 : [0] ++ flagR xs = xs := e1
      have e3 : ndGet xs = (0, Nd.zero, flagR xs) := by rw [ndGet, if_neg (not_not_intro h1), if_pos h2]
      rw [e3]
      exact ⟨nd_zero, by rw [ndPut_zero]; exact e1⟩
  · rw [ndGet, if_pos h1] at h
    exact absurd h h1
-- what is summed up
theorem ndOnly_no {L : Nd} {k : Int} (h : ¬ (ndAs L).kind = k) : ndOnly L k = [0] := by
  rw [ndOnly, if_neg (fun q => h q.1), if_neg (fun q => h q.1)]; rfl
theorem ndOnly1 {L : Nd} (h : ndCheck L = 0) (k : L.kind = 1) : ndOnly L 1 = [1] ++ lfPut L.leaf := by
  rw [ndOnly, ndAs_ok h, if_pos ⟨k, rfl⟩]; rfl
theorem ndOnly2 {L : Nd} (h : ndCheck L = 0) (k : L.kind = 2) : ndOnly L 2 = [1] ++ pnPut L.inner := by
  rw [ndOnly, ndAs_ok h, if_neg (by omega), if_pos ⟨k, rfl⟩]; rfl
theorem nd_blank_only {L : Nd} (h : ¬ ndCheck L = 0) (k : Int) (hk : ¬ k = 0) : ndOnly L k = ndOnly Nd.zero k := by
  rw [ndOnly_no (by rw [ndAs_no h]; exact fun q => hk q.symm), ndOnly_no (by rw [ndAs_ok nd_zero]; exact fun q => hk q.symm)]
theorem nd_blank_leaf {L : Nd} (h : ¬ ndCheck L = 0) (i : Int) : ofLeafO i L = ofLeafO i Nd.zero := by
  rw [ofLeafO, ofLeafO, nd_blank_only h 1 (by decide)]
theorem nd_blank_inner {L : Nd} (h : ¬ ndCheck L = 0) (xs ys : List Int) : ofInnerO L xs ys = ofInnerO Nd.zero xs ys := by
  rw [ofInnerO, ofInnerO, nd_blank_only h 2 (by decide)]
theorem nd_blank_put {L : Nd} (h : ¬ ndCheck L = 0) : ndPut L = ndPut Nd.zero := by rw [ndPut_no h, ndPut_zero]
theorem nd_eq1 {L M : Nd} (h : ndCheck L = 0) (h' : ndCheck M = 0) (k : L.kind = 1) (k' : M.kind = 1) (e : L.leaf = M.leaf) : L = M := by
  have a := nd_cases h
  have b := nd_cases h'
  have z : Nd.zero.kind = 0 := rfl
  obtain ⟨i1, l1, n1⟩ := L
  obtain ⟨i2, l2, n2⟩ := M
  simp only at k k' e
  subst k k' e
  rcases a with a | ⟨_, a, _⟩ | ⟨a, _⟩
  · rw [← a] at z; simp at z
  · rcases b with b | ⟨_, b, _⟩ | ⟨b, _⟩
    · rw [← b] at z; simp at z
    · simp only at a b; rw [a, b]
    · simp at b
  · simp at a
theorem nd_eq2 {L M : Nd} (h : ndCheck L = 0) (h' : ndCheck M = 0) (k : L.kind = 2) (k' : M.kind = 2) (e : L.inner = M.inner) : L = M := by
  have a := nd_cases h
  have b := nd_cases h'
  have z : Nd.zero.kind = 0 := rfl
  obtain ⟨i1, l1, n1⟩ := L
  obtain ⟨i2, l2, n2⟩ := M
  simp only at k k' e
  subst k k' e
  rcases a with a | ⟨a, _⟩ | ⟨_, a, _⟩
  · rw [← a] at z; simp at z
  · simp at a
  · rcases b with b | ⟨b, _⟩ | ⟨_, b, _⟩
    · rw [← b] at z; simp at z
    · simp at b
    · simp only at a b; rw [a, b]
theorem nd_pn {L : Nd} (h : ndCheck L = 0) (k : L.kind = 2) : pnCheck L.inner = 0 := by
  rcases nd_cases h with rfl | ⟨a, _⟩ | ⟨_, _, c⟩
  · simp at k
  · omega
  · exact c
theorem nd_lf {L : Nd} (h : ndCheck L = 0) (k : L.kind = 1) : lfCheck L.leaf = 0 := by
  rcases nd_cases h with rfl | ⟨_, _, c⟩ | ⟨a, _⟩
  · simp at k
  · exact c
  · omega
/-- Whether it is a leaf, and what it says: told apart, with whatever behind. -/
theorem only1_apart {L M : Nd} (h : ndCheck L = 0) (h' : ndCheck M = 0) (e : ndOnly L 1 = ndOnly M 1) : (¬ L.kind = 1 ∧ ¬ M.kind = 1) ∨ L = M := by
  by_cases k : L.kind = 1
  · by_cases k' : M.kind = 1
    · rw [ndOnly1 h k, ndOnly1 h' k'] at e
      have e := (List.append_cancel_left e)
      have a := lf_back (nd_lf h k) []
      rw [List.append_nil, e] at a
      have b := lf_back (nd_lf h' k') []
      rw [List.append_nil] at b
      rw [b] at a
      exact .inr (nd_eq1 h h' k k' (by simpa using a.symm))
    · rw [ndOnly1 h k, ndOnly_no (by rw [ndAs_ok h']; exact k')] at e
      simp at e
  · by_cases k' : M.kind = 1
    · rw [ndOnly1 h' k', ndOnly_no (by rw [ndAs_ok h]; exact k)] at e
      simp at e
    · exact .inl ⟨k, k'⟩
theorem only2_apart {L M : Nd} {xs ys : List Int} (h : ndCheck L = 0) (h' : ndCheck M = 0) (e : ndOnly L 2 ++ xs = ndOnly M 2 ++ ys) : ((¬ L.kind = 2 ∧ ¬ M.kind = 2) ∨ L = M) ∧ xs = ys := by
  by_cases k : L.kind = 2
  · by_cases k' : M.kind = 2
    · rw [ndOnly2 h k, ndOnly2 h' k', List.append_assoc, List.append_assoc] at e
      have e := (List.append_cancel_left e)
      have a := pn_back (nd_pn h k) xs
      rw [e, pn_back (nd_pn h' k') ys] at a
      simp only [Prod.mk.injEq, true_and] at a
      exact ⟨.inr (nd_eq2 h h' k k' a.1.symm), a.2.symm⟩
    · rw [ndOnly2 h k, ndOnly_no (by rw [ndAs_ok h']; exact k')] at e
      simp at e
  · by_cases k' : M.kind = 2
    · rw [ndOnly2 h' k', ndOnly_no (by rw [ndAs_ok h]; exact k)] at e
      simp at e
    · rw [ndOnly_no (by rw [ndAs_ok h]; exact k), ndOnly_no (by rw [ndAs_ok h']; exact k')] at e
      exact ⟨.inl ⟨k, k'⟩, List.append_cancel_left e⟩
theorem num4_inj {x y : Nat} (hx : x < 65536) (hy : y < 65536) (e : numOct (x : Int) (widthK 4) = numOct (y : Int) (widthK 4)) : x = y := by
  rw [widthK_4] at e
  have a := num_put (x : Int) (by omega) (by omega)
  rw [e, num_put (y : Int) (by omega) (by omega)] at a
  omega
theorem leaf_apart {L M : Nd} {x y : Nat} (h : ndCheck L = 0) (h' : ndCheck M = 0) (hx : x < 65536) (hy : y < 65536) (e : ofLeafO (x : Int) L = ofLeafO (y : Int) M) : x = y ∧ ((¬ L.kind = 1 ∧ ¬ M.kind = 1) ∨ L = M) := by
  rw [ofLeafO, ofLeafO, List.append_assoc, List.append_assoc] at e
  have e := List.append_cancel_left e
  have e2 := List.append_inj e (by rw [numOct_length, numOct_length])
  exact ⟨num4_inj hx hy e2.1, only1_apart h h' e2.2⟩
theorem inner_apart {L M : Nd} {xs ys : List Int} (h : ndCheck L = 0) (h' : ndCheck M = 0) (hx : xs.length ≤ 1000) (hy : ys.length ≤ 1000) (e : ofInnerO L xs ys = ofInnerO M ys xs) : xs = ys ∧ ((¬ L.kind = 2 ∧ ¬ M.kind = 2) ∨ L = M) := by
  rw [ofInnerO, ofInnerO] at e
  simp only [List.append_assoc] at e
  have e := List.append_cancel_left e
  obtain ⟨a, b⟩ := only2_apart h h' e
  have c := (bytes_put xs (bytesOct ys) (by omega)).2.1
  rw [b, (bytes_put ys (bytesOct xs) (by omega)).2.1] at c
  exact ⟨c.symm, a⟩
theorem leaf_same {L M : Nd} {x : Int} (h : ndCheck L = 0) (h' : ndCheck M = 0) (k : ¬ L.kind = 1) (k' : ¬ M.kind = 1) : ofLeafO x L = ofLeafO x M := by
  rw [ofLeafO, ofLeafO, ndOnly_no (by rw [ndAs_ok h]; exact k), ndOnly_no (by rw [ndAs_ok h']; exact k')]
theorem inner_same {L M : Nd} {xs ys : List Int} (h : ndCheck L = 0) (h' : ndCheck M = 0) (k : ¬ L.kind = 2) (k' : ¬ M.kind = 2) : ofInnerO L xs ys = ofInnerO M xs ys := by
  rw [ofInnerO, ofInnerO, ndOnly_no (by rw [ndAs_ok h]; exact k), ndOnly_no (by rw [ndAs_ok h']; exact k')]
theorem leaf_of {L M : Nd} {x y : Nat} (h : ndCheck L = 0) (h' : ndCheck M = 0) (q : (¬ L.kind = 1 ∧ ¬ M.kind = 1) ∨ NdSame L M) (e : (x : Int) = (y : Int)) : ofLeafO (x : Int) L = ofLeafO (y : Int) M := by
  rw [e]
  rcases q with ⟨k, k'⟩ | q
  · exact leaf_same h h' k k'
  · rw [ndSame_iff.1 q]
theorem inner_of {L M : Nd} {xs ys : List Int} (h : ndCheck L = 0) (h' : ndCheck M = 0) (q : (¬ L.kind = 2 ∧ ¬ M.kind = 2) ∨ NdSame L M) (e : xs = ys) : ofInnerO L xs ys = ofInnerO M ys xs := by
  rw [e]
  rcases q with ⟨k, k'⟩ | q
  · exact inner_same h h' k k'
  · rw [ndSame_iff.1 q]
theorem leaf_inner (L M : Nd) (x : Int) (xs ys : List Int) : ¬ ofLeafO x L = ofInnerO M xs ys := by
  rw [ofLeafO, ofInnerO, numOct_one 1 (by decide), numOct_one 2 (by decide)]
  simp
theorem mask_lt (m : Int) : maskK m 65535 < 65536 := by
  have : (BitVec.ofInt 64 m &&& BitVec.ofNat 64 65535).toNat ≤ 65535 := by
    rw [BitVec.toNat_and, BitVec.toNat_ofNat, Nat.mod_eq_of_lt (by omega)]
    exact Nat.and_le_right
  unfold maskK
  omega
-- one behind the other
def nputAll (Ls : List Nd) : List Int := Ls.flatMap ndPut
theorem nputAll_step {Ls : List Nd} {i : Nat} {L : Nd} (h : Ls[i]? = some L) : nputAll (Ls.take (i + 1)) = nputAll (Ls.take i) ++ ndPut L := by
  rw [List.take_add_one, h]
  simp [nputAll]
theorem nputAll_le (Ls : List Nd) : (nputAll Ls).length ≤ 2000 * Ls.length := by
  induction Ls with
  | nil => simp [nputAll]
  | cons L Ls ih =>
    have h := ndPut_le L
    simp only [nputAll, List.flatMap_cons, List.length_append, List.length_cons] at ih ⊢
    omega
theorem nputAll_next {Ls : List Nd} {t k : Nat} {L : Nd} (h : Ls[k]? = some L) (hk : k < t) : nputAll ((Ls.take t).drop k) = ndPut L ++ nputAll ((Ls.take t).drop (k + 1)) := by
  have e : (Ls.take t)[k]? = some L := by rw [List.getElem?_take, if_pos hk, h]
  obtain ⟨hl, he⟩ := List.getElem?_eq_some_iff.1 e
  rw [List.drop_eq_getElem_cons hl, he]
  simp [nputAll]
theorem nputAll_end {Ls : List Nd} {t k : Nat} (hk : t ≤ k) : nputAll ((Ls.take t).drop k) = [] := by
  rw [List.drop_eq_nil_of_le (by rw [List.length_take]; omega)]
  rfl
theorem nputAll_gotOk {Ls : List Nd} {t k : Nat} {L : Nd} (c : ndCheck L = 0) (h : Ls[k]? = some L) (hk : k < t) : ndGet (nputAll ((Ls.take t).drop k)) = (0, L, nputAll ((Ls.take t).drop (k + 1))) := by
  rw [nputAll_next h hk, nd_backOk c]
theorem nputAll_gotNo {Ls : List Nd} {t k : Nat} {L : Nd} (c : ¬ ndCheck L = 0) (h : Ls[k]? = some L) (hk : k < t) : ndGet (nputAll ((Ls.take t).drop k)) = (0, Nd.zero, nputAll ((Ls.take t).drop (k + 1))) := by
  rw [nputAll_next h hk, nd_backNo c]
end Go.Proofs.YtpoonjgkgaodmaaDoor
