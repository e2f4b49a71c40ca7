/-
  Contracts of wire.PutNums and wire.GetNums, for every list of numbers and every slice of octets.
-/
import Derived.Test.YtonlkmepdehdgaaWiCat
namespace Go.Proofs.Ytonlkmepdehdgaa
open Go.ChangeShapes Go.WideShapes Go.ChangeAt Go.RowKit
set_option linter.unusedVariables false

/-- The slice of n numbers at A reads, in w, as ls, and lies below block B. -/
def Nums (w : World) (B : Nat) (A : Option Addr) (n : Nat) (ls : List Int) : Prop :=
  ls.length = n ∧ (0 < n → ∃ b o, A = some ⟨b, o, none⟩ ∧ b < B ∧ ∀ i x, ls[i]? = some x → w.cell? ⟨b, o + i, none⟩ = some (.int .i64 x))

theorem Nums.keep {w w' : World} {B : Nat} {A : Option Addr} {n : Nat} {xs : List Int} (h : Nums w B A n xs) (hk : ∀ p : Addr, p.block < B → w'.cell? p = w.cell? p) : Nums w' B A n xs :=
  ⟨h.1, fun hn => by
    obtain ⟨b, o, e, hB, hc⟩ := h.2 hn
    exact ⟨b, o, e, hB, fun i x hx => (hk _ hB).trans (hc i x hx)⟩⟩
theorem Nums.below {w w' : World} {B : Nat} {A : Option Addr} {n : Nat} {xs : List Int} (h : Nums w B A n xs) (hb : Below B w w') : Nums w' B A n xs := h.keep fun _ hp => hb.cell hp
theorem Nums.more {w : World} {B B' : Nat} {A : Option Addr} {n : Nat} {xs : List Int} (h : Nums w B A n xs) (hB : B ≤ B') : Nums w B' A n xs :=
  ⟨h.1, fun hn => by
    obtain ⟨b, o, e, hb, hc⟩ := h.2 hn
    exact ⟨b, o, e, by omega, hc⟩⟩
theorem Nums.nil (w : World) (B : Nat) (A : Option Addr) : Nums w B A 0 [] := ⟨rfl, fun h => absurd h (by omega)⟩

/-- The four octets of each number. -/
def numsOct (ls : List Int) : List Int := ls.flatMap fun n => numOct n 4
theorem numsOct_length (ls : List Int) : (numsOct ls).length = 4 * ls.length := by
  induction ls with
  | nil => rfl
  | cons x l ih =>
    have e : numsOct (x :: l) = numOct x 4 ++ numsOct l := rfl
    rw [e, List.length_append, numOct_length, ih, List.length_cons]; omega
theorem numsOct_bytes (ls : List Int) : ∀ y ∈ numsOct ls, 0 ≤ y ∧ y ≤ 255 := by
  intro y hy
  unfold numsOct at hy
  rw [List.mem_flatMap] at hy
  obtain ⟨n, _, h⟩ := hy
  exact numOct_bytes n 4 y h
theorem numsOct_step (ls : List Int) (j : Nat) (h : j < ls.length) : numsOct (ls.take (j + 1)) = numsOct (ls.take j) ++ numOct ls[j] 4 := by
  unfold numsOct
  rw [List.take_succ_eq_append_getElem h, List.flatMap_append, List.flatMap_cons, List.flatMap_nil, List.append_nil]

theorem make_room (k : Nat) (K : Int) (hK : K = k) (hb : k ≤ 140737488355328) (w : World) :
    (Instr.makeSlice 22 (.int .i64 0) (.int .i64 K)).run Try.prog w = .ok (.slice (some ⟨w.heap.size, 0, none⟩) 0 k) (w.alloc (.cells (zeros k).toArray 5)) := by
  have h := make_row 0 k K hK (by omega) w
  simpa using h

theorem room_own (k : Nat) (hb : k ≤ maxLen) (w : World) : (w.alloc (.cells (zeros k).toArray 5)).ownsRow w.heap.size 5 1 (.slice (some ⟨w.heap.size, 0, none⟩) 0 k) 0 [] :=
  ⟨rfl, .inr ⟨w.heap.size, k, _, rfl, Nat.le_refl _, heap_alloc_new w _, Nat.zero_le _, hb, by simp [zeros], rfl⟩⟩

theorem putNums_any (A A2 : Option Addr) (n c n2 c2 B : Nat) (xs ls : List Int) (w : World) (hO : Oct w B A n xs) (hV : Nums w B A2 n2 ls) (hB : B ≤ w.heap.size) (hnc : n ≤ c) (hcm : c ≤ maxLen) (hn : n ≤ 35184372088832) :
    Calls Try.prog 23 #[.slice A n c, .slice A2 n2 c2] w (PutSl w (xs ++ bytesOct (numsOct ls))) := by
  have HO := Lib.hid hO
  have HV := Lib.hid hV
  have L2 := Lib.hid hV.1
  clear hO hV
  by_cases hbig : 262144 < n2
  · have e : bytesOct (numsOct ls) = [] := by unfold bytesOct; rw [numsOct_length, L2.out, if_pos (by omega)]
    rw [e, List.append_nil]
    clear e
    go_enter Try.func23, Try.ntmps23
    go_wp2
    go_ret
    exact ⟨A, n, c, rfl, hnc, hcm, HO.out.more hB, Below.refl _ _⟩
  · have hmk := make_room (4 * n2) (4 * (n2 : Int)) (by omega) (by omega)
    have HOW := Lib.hid (room_own (4 * n2) (by unfold maxLen; omega) w)
    have ba : Below w.heap.size w (w.alloc (.cells (zeros (4 * n2)).toArray 5)) := (Below.refl _ _).alloc (Nat.le_refl _) _
    generalize (zeros (4 * n2)).toArray = zz at *
    go_enter Try.func23, Try.ntmps23
    go_wp2_with fail
    clear hmk
    go_loopw [5, 18] (fun u i w' => ∃ j : Nat, j ≤ n2 ∧ i = .int .i64 j ∧ Hid (w'.ownsRow w.heap.size 5 1 u (numsOct (ls.take j)).length ((numsOct (ls.take j)).map (Value.int .u8))) ∧ Below w.heap.size w w' ∧ w.heap.size ≤ w'.heap.size) (fun _ i _ => n2 - (intOf i).toNat)
    case atStart => exact ⟨0, Nat.zero_le _, rfl, Lib.hid (by simpa [numsOct] using HOW.out), ba, by simp⟩
    case round =>
      obtain ⟨j, hj, rfl, H1, hb1, hs1⟩ := hrel
      have HT : Hid ((numsOct (ls.take j)).length = 4 * j) := by
        show _ = _
        rw [numsOct_length, List.length_take, L2.out]; omega
      by_cases hlt : j < n2
      · have hjl : j < ls.length := by rw [L2.out]; omega
        obtain ⟨b, o, rfl, hbB, hc⟩ := HV.out.2 (by omega)
        have hcell := (hb1.cell (p := ⟨b, o + j, none⟩) (by show b < w.heap.size; omega)).trans (hc j ls[j] (List.getElem?_eq_getElem hjl))
        have HS := Lib.hid (numsOct_step ls j hjl)
        clear hc
        generalize ls[j] = y at *
        go_wp2_with fail
        refine (lay_any _ 4 w.heap.size _ y w _ H1.out hb1 hs1 (by rw [HT.out]; omega) (Nat.le_refl _)).mono ?_
        rw [← HS.out]
        rintro e w2 ⟨v2, rfl, how2, hb2, hs2⟩
        have H2 := Lib.hid how2
        clear how2
        go_wp2_with fail
        go_roundw
        case rel => exact ⟨j + 1, by omega, by go_num, H2, hb2, hs2⟩
        case measure => simp [intOf]; omega
      · obtain rfl : j = n2 := by omega
        have e : ls.take j = ls := by rw [← L2.out, List.take_length]
        rw [e] at H1 HT
        clear e
        obtain ⟨A3, c3, rfl, h1, h2, h3⟩ := own_sl H1.out (numsOct_bytes ls)
        have H3 := Lib.hid h3
        clear h3
        go_wp2_with fail
        refine (putBytes_any A A3 n c _ c3 _ xs (numsOct ls) _ ((HO.out.below (hb1.mono hB)).more (by omega)) H3.out (Nat.le_refl _) hnc hcm hn).mono ?_
        rintro e w4 ⟨A4, n4, c4, rfl, g1, g2, g3, hb4⟩
        have H4 := Lib.hid g3
        clear g3
        go_wp2
        go_ret
        exact ⟨A4, n4, c4, rfl, g1, g2, H4.out, hb1.trans (hb4.mono hs1)⟩

/-- The numbers of four octets each. -/
def fours (ps : List Int) : List Int := (List.range (ps.length / 4)).map fun i => numV ((ps.drop (4 * i)).take 4)
theorem fours_length (ps : List Int) : (fours ps).length = ps.length / 4 := by simp [fours]
theorem fours_step (ps : List Int) (j : Nat) (h : j < ps.length / 4) : (fours ps).take (j + 1) = (fours ps).take j ++ [numV ((ps.drop (4 * j)).take 4)] := by
  rw [List.take_succ_eq_append_getElem (by rw [fours_length]; exact h)]
  simp [fours]

def numsE (xs : List Int) : Int := if bytesE xs ≠ 0 then bytesE xs else if (bytesP xs).length % 4 ≠ 0 then 2 else 0
def numsL (xs : List Int) : List Int := if numsE xs = 0 then fours (bytesP xs) else []
def numsR (xs : List Int) : List Int := if numsE xs = 0 then bytesR xs else []

/-- Numbers, the rest and an error are answered; nothing that was there has changed. -/
def GotNums (w : World) (B : Nat) (ls rs : List Int) (er : Int) (e : Ending) (w' : World) : Prop :=
  ∃ A1 n1 c1 A n c, e = .returned (.tuple #[.slice A1 n1 c1, .slice A n c, .int .i64 er]) ∧ n ≤ c ∧ c ≤ maxLen ∧ Nums w' w'.heap.size A1 n1 ls ∧ Oct w' B A n rs ∧ Below w.heap.size w w'

/-- So many zeros, as cells. -/
def zerosI (n : Nat) : List Value := List.replicate n (.int .i64 0)
theorem zerosI_length (n : Nat) : (zerosI n).length = n := by simp [zerosI]
theorem zerosI_succ (n : Nat) : zerosI (n + 1) = .int .i64 0 :: zerosI n := rfl

theorem infoInt : (Try.prog.info? 3).map (fun i => (i.zero, i.size, i.bytes)) = some (some (.int .i64 0), 1, 8) := by kernel_rfl

theorem make_nums (k : Nat) (K : Int) (hK : K = k) (hb : k ≤ 1048576) (w : World) :
    (Instr.makeSlice 23 (.int .i64 K) (.int .i64 K)).run Try.prog w = .ok (.slice (some ⟨w.heap.size, 0, none⟩) k k) (w.alloc (.cells (zerosI k).toArray 3)) := by
  subst hK
  obtain ⟨i, hi, hz, hs, hby⟩ := info_parts infoInt
  have hr := run_make (P := Try.prog) w 23 3 i _ Try.underlying23 hi hz .i64 .i64 (k : Int) (k : Int) (by omega) (by omega) (by rw [hby]; omega) (by omega)
  rw [hr]
  have e2 : (madeCells (Value.int .i64 0).cells (k * i.size)) = (zerosI k).toArray := by
    have := toList_madeCells_one (Value.int .i64 0) k
    rw [hs, Nat.mul_one]
    exact Array.toList_inj.1 (by rw [List.toList_toArray]; exact this)
  rw [Int.toNat_natCast, e2]

theorem run_cut_four (A : Option Addr) (n c j : Nat) (h2 : 4 * j + 4 ≤ c) (w : World) :
    (Instr.sliceAt 22 (.slice A n c) (some (.int .i64 (4 * (j : Int)))) (some (.int .i64 (4 * (j : Int) + 4))) none).run Try.prog w = .ok (.slice (cutA A (4 * j) c) 4 (c - 4 * j)) w := by
  have h := run_cut_lh A n c (4 * j) (4 * j + 4) (4 * (j : Int)) (4 * (j : Int) + 4) (by omega) (by omega) (by omega) h2 w
  rwa [show 4 * j + 4 - 4 * j = 4 from by omega] at h

/-- A row of k numbers of which the first j have been laid. -/
def rowAt (ls : List Int) (k j : Nat) : List Value := (ls.take j).map (Value.int .i64) ++ zerosI (k - j)
theorem rowAt_get (ls : List Int) (k j : Nat) (hl : ls.length = k) (h : j < k) : (rowAt ls k j)[j]? = some (.int .i64 0) := by
  unfold rowAt
  have e : ((ls.take j).map (Value.int .i64)).length = j := by simp; omega
  rw [List.getElem?_append_right (by omega), e, Nat.sub_self, show k - j = (k - j - 1) + 1 from by omega, zerosI_succ]; rfl
theorem rowAt_set (ls : List Int) (k j : Nat) (hl : ls.length = k) (h : j < k) (y : Int) (hy : ls.take (j + 1) = ls.take j ++ [y]) : (rowAt ls k j).set j (.int .i64 y) = rowAt ls k (j + 1) := by
  unfold rowAt
  have e : ((ls.take j).map (Value.int .i64)).length = j := by simp; omega
  rw [List.set_append_right _ _ (by omega), e, Nat.sub_self, show k - j = (k - (j + 1)) + 1 from by omega, zerosI_succ, hy]
  simp

theorem own_nums {w : World} {base g n : Nat} {ys : List Int} (h : w.ownsRow base 3 1 (.slice (some ⟨g, 0, none⟩) n n) n (ys.map (Value.int .i64))) : Nums w w.heap.size (some ⟨g, 0, none⟩) n ys := by
  have hl : ys.length = n := by simpa using h.1
  refine ⟨hl, fun _ => ⟨g, 0, rfl, (h.lt g rfl).2, fun i x hx => ?_⟩⟩
  have := h.cells (g := g) rfl i (.int .i64 x) (by rw [List.getElem?_map, hx]; rfl)
  rwa [Addr.add_lit] at this

theorem bytesP_le (xs : List Int) (hx : ∀ x ∈ xs, 0 ≤ x ∧ x ≤ 255) : (bytesP xs).length ≤ 1048576 := by
  unfold bytesP
  by_cases h : bytesE xs = 0
  · rw [if_pos h, List.length_take]
    have : ¬ 1048576 < getV xs := by
      intro h2
      unfold bytesE at h
      by_cases h3 : getE xs = 0
      · rw [if_neg (by simpa using h3), if_pos h2] at h; simp at h
      · rw [if_pos h3] at h; exact h3 h
    omega
  · rw [if_neg h]; simp

theorem getNums_any (A : Option Addr) (n c B : Nat) (xs : List Int) (w : World) (hO : Oct w B A n xs) (hnc : n ≤ c) (hcm : c ≤ maxLen) (hB : B ≤ w.heap.size) :
    Calls Try.prog 14 #[.slice A n c] w (GotNums w B (numsL xs) (numsR xs) (numsE xs)) := by
  have Hc := Lib.hid (getBytes_any A n c B xs w hO hnc hcm hB)
  have hle := bytesP_le xs hO.2.1
  clear hO
  by_cases hE : bytesE xs = 0
  · by_cases h4 : (bytesP xs).length % 4 = 0
    · have e1 : numsE xs = 0 := by simp [numsE, hE, h4]
      have e2 : numsL xs = fours (bytesP xs) := by simp [numsL, e1]
      have e3 : numsR xs = bytesR xs := by simp [numsR, e1]
      rw [e1, e2, e3]
      rw [hE] at Hc
      generalize bytesP xs = ps at *
      generalize bytesR xs = rs at *
      obtain ⟨k, hk⟩ : ∃ k, ps.length / 4 = k := ⟨_, rfl⟩
      have hk4 : ps.length = 4 * k := by omega
      have HK := Lib.hid hk
      have HK4 := Lib.hid hk4
      have hkb : k ≤ 262144 := by omega
      clear e1 e2 e3 hE h4 hk hk4 hle
      have hmk := make_nums k k rfl (by omega)
      go_enter Try.func14, Try.ntmps14
      go_wp2_with fail
      refine Hc.out.mono ?_
      rintro e w1 ⟨A1, n1, c1, A2, n2, c2, rfl, hn1, hc1, hn2, hc2, hO1, hO2, hb1⟩
      have hc1' : c1 ≤ 9223372036854775807 := hc1
      obtain rfl : n1 = 4 * k := by rw [← hO1.1, HK4.out]
      have HO1 := Lib.hid hO1
      have HO2 := Lib.hid hO2
      clear hO1 hO2
      have HR : Hid ((w1.alloc (.cells (zerosI k).toArray 3)).ownsRow w1.heap.size 3 1 (.slice (some ⟨w1.heap.size, 0, none⟩) k k) k (rowAt (fours ps) k 0)) := by
        have h := World.ownsRow_lit (base := w1.heap.size) (e := 3) (size := 1) w1 (zerosI k).toArray k (Nat.le_refl _) (by unfold maxLen; omega) (by simp [zerosI_length])
        show World.ownsRow _ _ _ _ _ _ _
        simpa [rowAt] using h
      have ba : Below w1.heap.size w1 (w1.alloc (.cells (zerosI k).toArray 3)) := (Below.refl _ _).alloc (Nat.le_refl _) _
      have HF : Hid ((fours ps).length = k) := by show _ = _; rw [fours_length, HK.out]
      generalize (zerosI k).toArray = zz at *
      go_wp2_with fail
      clear hmk
      go_loopw [29] (fun i w' => ∃ j : Nat, j ≤ k ∧ i = .int .i64 j ∧ Hid (w'.ownsRow w1.heap.size 3 1 (.slice (some ⟨w1.heap.size, 0, none⟩) k k) k (rowAt (fours ps) k j)) ∧ Below w1.heap.size w1 w' ∧ w1.heap.size ≤ w'.heap.size) (fun i _ => k - (intOf i).toNat)
      case atStart => exact ⟨0, Nat.zero_le _, rfl, HR, ba, by simp⟩
      case round =>
        obtain ⟨j, hj, rfl, H1, hb2, hs2⟩ := hrel
        by_cases hlt : j < k
        · have r1 := run_cut_four A1 (4 * k) c1 j (by omega)
          have hcell : wr.cell? ⟨w1.heap.size, j, none⟩ = some (.int .i64 0) := by rw [H1.out.cellAt j (by omega)]; exact rowAt_get _ k j HF.out hlt
          have hfro : wr.frozen? ⟨w1.heap.size, j, none⟩ = false := H1.out.frozenAt j
          have HS := Lib.hid (fours_step ps j (by rw [HK.out]; exact hlt))
          have HX : Hid (Oct wr B (cutA A1 (4 * j) c1) 4 ((ps.drop (4 * j)).take 4)) := by
            show Oct _ _ _ _ _
            exact ((HO1.out.below (hb2.mono (Nat.le_trans hB hb1.size))).cutA (4 * j) c1 hn1 (by omega)).upto 4 (by omega)
          have HD := Lib.hid (read_any (cutA A1 (4 * j) c1) 4 (c1 - 4 * j) B _ _ HX.out (Nat.le_refl _))
          generalize numV ((ps.drop (4 * j)).take 4) = y at HS HD
          go_wp2_with (go_at_call 29; refine HD.out.mono ?_; rintro e w' ⟨rfl, rfl⟩)
          have hst := H1.out.stored j (.int .i64 y)
          have H2 := Lib.hid hst.1
          have hb3 : Below w1.heap.size w1 (wr.setCell ⟨w1.heap.size, j, none⟩ (.int .i64 y)) := hb2.grown hst.2 hs2 (fun k hk => by injection hk with hk; omega)
          have hs3 : w1.heap.size ≤ (wr.setCell ⟨w1.heap.size, j, none⟩ (.int .i64 y)).heap.size := Nat.le_trans hs2 hst.2.size
          rw [rowAt_set _ k j HF.out hlt y HS.out] at H2
          clear hst
          go_roundw
          case rel => exact ⟨j + 1, by omega, by go_num, H2, hb3, hs3⟩
          case measure => simp [intOf]; omega
        · obtain rfl : j = k := by omega
          have e : rowAt (fours ps) j j = (fours ps).map (Value.int .i64) := by
            unfold rowAt
            rw [Nat.sub_self, show zerosI 0 = [] from rfl, List.append_nil]
            conv => lhs; arg 2; arg 1; rw [← HF.out]
            rw [List.take_length]
          rw [e] at H1
          clear e
          go_wp2_with fail
          go_ret3
          exact ⟨_, _, _, A2, n2, c2, rfl, hn2, hc2, own_nums H1.out, HO2.out.below (hb2.mono (Nat.le_trans hB hb1.size)), hb1.trans (hb2.mono hb1.size)⟩
    · have e1 : numsE xs = 2 := by simp [numsE, hE, h4]
      have e2 : numsL xs = [] := by simp [numsL, e1]
      have e3 : numsR xs = [] := by simp [numsR, e1]
      rw [e1, e2, e3]
      rw [hE] at Hc
      generalize bytesP xs = ps at *
      generalize bytesR xs = rs at *
      clear e1 e2 e3 hE
      go_enter Try.func14, Try.ntmps14
      go_wp2_with fail
      refine Hc.out.mono ?_
      rintro e w1 ⟨A1, n1, c1, A2, n2, c2, rfl, hn1, hc1, hn2, hc2, hO1, hO2, hb1⟩
      have hm : ¬ n1 % 4 = 0 := by rw [← hO1.1]; exact h4
      have hc1' : c1 ≤ 9223372036854775807 := hc1
      clear hO1 hO2 h4
      have hm2 : ((n1 : Int) % 4 != 0) = true := by simp; omega
      have hm3 : (n1 % 4 == 0) = false := by simp; omega
      go_wp2
      go_ret3
      exact ⟨none, 0, 0, none, 0, 0, rfl, Nat.le_refl _, Nat.zero_le _, Nums.nil _ _ _, Oct.nil _ _ _, hb1⟩
  · have e1 : numsE xs = bytesE xs := by simp [numsE, hE]
    have e2 : numsL xs = [] := by simp [numsL, e1, hE]
    have e3 : numsR xs = [] := by simp [numsR, e1, hE]
    rw [e1, e2, e3]
    have hne : (bytesE xs != 0) = true := by simpa using hE
    generalize bytesE xs = ee at *
    generalize bytesP xs = ps at *
    generalize bytesR xs = rs at *
    clear e1 e2 e3 hE
    go_enter Try.func14, Try.ntmps14
    go_wp2_with fail
    refine Hc.out.mono ?_
    rintro e w1 ⟨A1, n1, c1, A2, n2, c2, rfl, hn1, hc1, hn2, hc2, hO1, hO2, hb1⟩
    clear hO1 hO2
    go_wp2
    go_ret3
    exact ⟨none, 0, 0, none, 0, 0, rfl, Nat.le_refl _, Nat.zero_le _, Nums.nil _ _ _, Oct.nil _ _ _, hb1⟩
end Go.Proofs.Ytonlkmepdehdgaa
