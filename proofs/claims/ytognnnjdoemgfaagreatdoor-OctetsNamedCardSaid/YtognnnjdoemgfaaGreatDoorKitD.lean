/-
  KitD: NuCat, NuLib, PnJoin, PnFr, TrClr, HsDrop, HsDropR.
-/
import Derived.Test.YtognnnjdoemgfaaGreatDoorKitA
import Derived.Lib.Hide
import Derived.Lib.AppendZeros
import Derived.Test.YtognnnjdoemgfaaGreatDoorKitN
import Derived.Test.YtognnnjdoemgfaaGreatDoorShelf
import Derived.Lib.OwnBridge
import Derived.Lib.RowBridge
import Derived.Sort.OwnSortedInts
import Derived.Test.YtognnnjdoemgfaaGreatDoorKitP
import Derived.Test.YtognnnjdoemgfaaGreatDoorTrRef
import Derived.Test.YtognnnjdoemgfaaGreatDoorKitI
import Derived.Test.YtognnnjdoemgfaaGreatDoorKitH
namespace Go.Proofs.YtognnnjdoemgfaaGreatDoor
open Go.ChangeShapes Go.WideShapes Go.ChangeAt Go.RowKit
set_option linter.unusedVariables false

/- NuCat:
  Contracts of slices.Grow (of nil) and slices.Concat (of two slices of whole numbers), which the program takes from Go's library.
-/
def OwnNu (w:World) (base:Nat) (ys:List Int) (e:Ending) (w':World):Prop :=
 ∃ v,e=.returned v∧w'.ownsRow base 3 1 v ys.length (ys.map (Value.int .i64))∧Below base w w'∧base≤w'.heap.size
def JoinedNu (w:World) (base:Nat) (v:Value) (xs ys:List Int) (v':Value) (w':World):Prop :=
 w'.ownsRow base 3 1 v' (xs.length+ys.length) ((xs++ys).map (Value.int .i64))∧w.grownBy w' v.ownBlock
theorem wpList_append_nums (w:World) {ops:Array Oper} {rest:List Oper} {o:Oper} {a:Act} {Q:Exit→Act→World→Prop} (hgd:o.guard=none) (s x:Operand)
  (ho:o.op=.call { callee:=.builtin .append,args:=#[s,x],argTypes:=#[32,32] }) (hty:o.type=32) (base:Nat) (v:Value) (xs ys:List Int) (A:Option Addr) (m c B:Nat)
  (hs:a.eval s=v) (hx:a.eval x=.slice A m c) (hown:w.ownsRow base 3 1 v xs.length (xs.map (Value.int .i64))) (hO:Nums w B A m ys) (hb:xs.length+m≤1000000000000) (hbase:base≤w.heap.size)
  (h:∀ v' w',JoinedNu w base v xs ys v' w'→wpList Tryz.prog ops Q rest (a.put o.dst v') w'):wpList Tryz.prog ops Q (o::rest) a w:=by
 refine wpList_plain hgd fun K hK=>?_
 obtain ⟨v',w',hrun,h1,h2⟩:=append_nums w base v xs ys A m c B hown hO hb hbase
 unfold Oper.wp
 simp [execOp,ho,hty,resolve,invoke,builtin,hs,hx,hrun,Result.andThen]
 exact hK _ _ (h v' w' ⟨by rw [←List.length_append];exact h1,h2⟩)
theorem joinedNums_below {w0 w w':World} {base:Nat} {v v':Value} {xs ys:List Int} {n:Nat} {l:List Value} (hown:w.ownsRow base 3 1 v n l) (h:JoinedNu w base v xs ys v' w') (hb:Below base w0 w) (hB:base≤w.heap.size):Below base w0 w'∧base≤w'.heap.size :=
 ⟨hb.grown h.2 hB (fun k hk=>(hown.lt k hk).1),Nat.le_trans hB h.2.size⟩
set_option maxRecDepth 20000 in
theorem growN_nil (n:Nat) (m:Int) (hm:m=n) (w:World) (hn:n≤1000000000000) :
  Calls Tryz.prog 138 #[.slice none 0 0,.int .i64 m] w (OwnNu w w.heap.size []):=by
 subst hm
 obtain ⟨i0,hi0,hz0,hz1,hz2⟩:=info_parts infoInt
 by_cases h0:n=0
 ·subst h0
  go_enter Tryz.func138,Tryz.ntmps138
  go_wp2
  go_ret
  exact ⟨_,rfl,⟨rfl,.inl ⟨rfl,rfl⟩⟩,Below.refl _ _,Nat.le_refl _⟩
 have hr:=Lib.run_append_nil_zeros (P:=Tryz.prog) w 32 3 32 3 i0 _ .i64 .i64 Tryz.underlying32 Tryz.underlying3 hi0 hz0 n (by omega) (by omega) (by omega) (by rw [hz2];omega)
 have hG:=grownCap_ge w n 0 3
 have hG2:=grownCap_le_maxLen w n 0 3 (by unfold maxLen;omega)
 generalize grownCap w n 0 3=G at *
 have HR:=Lib.hid hr
 have hpos:0<n:=by omega
 have hG3:G≤9223372036854775807:=hG2
 clear hr hG2
 go_enter Tryz.func138,Tryz.ntmps138
 go_wp2_with (at_builtin;refine Lib.wpList_append_run _ rfl _ _ _ _ rfl _ _ rfl rfl _ _ HR.out ?_)
 go_ret
 refine ⟨_,rfl,⟨rfl,.inr ⟨w.heap.size,G,_,rfl,Nat.le_refl _,heap_alloc_new w.drew _,Nat.zero_le _,hG3,?_,rfl⟩⟩,((Below.refl _ _).drew).alloc (Nat.le_refl _) _,by simp⟩
 rw [Array.size_append,size_zeroCells,size_zeroCells]
 simp
 omega

/-- How far the sum of two lengths has come. -/
def CatSumN (n1 n2:Nat) (s i:Value):Prop :=
 (i=.int .i64 0∧s=.int .i64 0)∨(i=.int .i64 1∧s=.int .i64 n1)∨(i=.int .i64 2∧s=.int .i64 ((n1:Int)+n2))
/-- How far two slices of whole numbers have been joined. -/
def CatRowN (w:World) (x1 x2:List Int) (v i:Value) (w':World):Prop :=
  Below w.heap.size w w'∧w.heap.size≤w'.heap.size ∧
  ((i=.int .i64 0∧w'.ownsRow w.heap.size 3 1 v ([]:List Int).length (([]:List Int).map (Value.int .i64))) ∨
   (i=.int .i64 1∧w'.ownsRow w.heap.size 3 1 v x1.length (x1.map (Value.int .i64))) ∨
   (i=.int .i64 2∧w'.ownsRow w.heap.size 3 1 v (x1++x2).length ((x1++x2).map (Value.int .i64))))
theorem concatN_two (b n1 n2 c1 c2 B:Nat) (A1 A2:Option Addr) (x1 x2:List Int) (w:World)
    (h1:Nums w B A1 n1 x1) (h2:Nums w B A2 n2 x2) (hB:B≤w.heap.size) (hb:b<w.heap.size)
    (e1:w.cell? ⟨b,0,none⟩=some (.slice A1 n1 c1)) (e2:w.cell? ⟨b,1,none⟩=some (.slice A2 n2 c2))
    (hn:n1+n2≤1000000000000) :
    Calls Tryz.prog 120 #[.slice (some ⟨b,0,none⟩) 2 2] w (OwnNu w w.heap.size (x1++x2)):=by
  have H1:=Lib.hid h1
  have H2:=Lib.hid h2
  have L1:=Lib.hid h1.1
  have L2:=Lib.hid h2.1
  have E1:=Lib.hid e1
  have E2:=Lib.hid e2
  clear h1 h2 e1 e2
  go_enter Tryz.func120,Tryz.ntmps120
  go_wp2
  go_loop [3,11] (fun s i=>CatSumN n1 n2 s i) (fun _ i=>2-(intOf i).toNat)
  case atStart=>exact .inl ⟨rfl,rfl⟩
  case round =>
    rcases hrel with ⟨rfl,rfl⟩ | ⟨rfl,rfl⟩ | ⟨rfl,rfl⟩
    · have e:=E1.out
      go_wp2
      go_round
      case rel=>exact .inr (.inl ⟨rfl,rfl⟩)
      case measure=>simp [intOf]
    · have e:=E2.out
      go_wp2
      go_round
      case rel=>exact .inr (.inr ⟨rfl,rfl⟩)
      case measure=>simp [intOf]
    · go_wp2_with fail
      refine (growN_nil (n1+n2) _ (by omega) _ hn).mono ?_
      rintro e w1 ⟨v1,rfl,how1,hb1,hs1⟩
      have HOW1:=Lib.hid how1
      clear how1
      go_wp2_with fail
      go_loopw [6,27] (fun v i w'=>CatRowN w x1 x2 v i w') (fun _ i _=>2-(intOf i).toNat)
      case atStart=>exact ⟨hb1,hs1,.inl ⟨rfl,HOW1.out⟩⟩
      case round =>
        rcases hrel with ⟨hb2,hs2,⟨rfl,how2⟩ | ⟨rfl,how2⟩ | ⟨rfl,how2⟩⟩
        · have HOW2:=Lib.hid how2
          have e:=(hb2.cell (p:=⟨b,0,none⟩) hb).trans E1.out
          clear how2
          go_wp2_with (at_builtin
                       refine wpList_append_nums _ rfl (.tmp 31) (.tmp 32) rfl rfl w.heap.size _ [] x1 A1 n1 c1 B rfl rfl ?hown ?hO ?hb ?hbase ?_
                       case hown=>exact HOW2.out
                       case hO=>exact H1.out.below (hb2.mono hB)
                       case hb=>simp;omega
                       case hbase=>exact hs2
                       intro v4 w4 hj4
                       have hb4:=joinedNums_below HOW2.out hj4 hb2 hs2
                       have H4:=Lib.hid hj4.1
                       clear hj4)
          go_roundw
          case rel =>
            have h4:=H4.out
            rw [←List.length_append] at h4
            exact ⟨hb4.1,hb4.2,.inr (.inl ⟨rfl,h4⟩)⟩
          case measure=>simp [intOf]
        · have HOW2:=Lib.hid how2
          have e:=(hb2.cell (p:=⟨b,1,none⟩) hb).trans E2.out
          clear how2
          go_wp2_with (at_builtin
                       refine wpList_append_nums _ rfl (.tmp 31) (.tmp 32) rfl rfl w.heap.size _ x1 x2 A2 n2 c2 B rfl rfl ?hown ?hO ?hb ?hbase ?_
                       case hown=>exact HOW2.out
                       case hO=>exact H2.out.below (hb2.mono hB)
                       case hb=>simp [L1.out];omega
                       case hbase=>exact hs2
                       intro v4 w4 hj4
                       have hb4:=joinedNums_below HOW2.out hj4 hb2 hs2
                       have H4:=Lib.hid hj4.1
                       clear hj4)
          go_roundw
          case rel =>
            have h4:=H4.out
            rw [←List.length_append] at h4
            exact ⟨hb4.1,hb4.2,.inr (.inr ⟨rfl,h4⟩)⟩
          case measure=>simp [intOf]
        · have HOW2:=Lib.hid how2
          clear how2
          go_wp2
          go_ret
          exact ⟨_,rfl,HOW2.out,hb2,hs2⟩
/- NuLib:
  Go's library on slices of whole numbers: joined, sorted, without neighbours that are the same, looked up.
-/
section
variable {w:World} {base B B2:Nat} {v:Value} {s s2:SlV} {xs ys:List Int}
theorem sort_own (h:w.ownsRow base 3 1 v ys.length (ys.map (Value.int .i64))) (hn:ys.length≤1000000000000) (hbase:base≤w.heap.size) :
  Calls Tryz.prog 121 #[v] w fun e w'=>∃ v',e=.returned v'∧v'=.tuple #[]∧w'.ownsRow base 3 1 v (ys.mergeSort fun x y=>decide (x≤y)).length ((ys.mergeSort fun x y=>decide (x≤y)).map (Value.int .i64))∧Below base w w':=by
 have hl:(ys.mergeSort fun x y=>decide (x≤y)).length=ys.length:=List.length_mergeSort ys
 rcases h.2 with ⟨rfl,h0⟩ | ⟨g,cap,cur,rfl,hg,hb,h1,h2,h3,h4⟩
 ·have e:ys=[]:=List.eq_nil_of_length_eq_zero h0
  subst e
  refine (Tryz.slices_Sort_int_none none 0 w).mono ?_
  rintro e w' ⟨rfl,rfl⟩
  exact ⟨_,rfl,rfl,by simpa using h,Below.refl _ _⟩
 have hH:=holds_of_blockI hb (by simpa using h4)
 refine (Tryz.slices_Sort_int g 0 cap ys w hH (Array.getElem?_eq_some_iff.1 hb).1 (by omega)).mono ?_
 rintro e w' ⟨rfl,n,os,rfl⟩
 refine ⟨_,rfl,rfl,?_,(Below.refl _ _).grown (grownBy_sortedI _) hbase (fun k hk=>by cases hk;exact hg)⟩
 rw [hl]
 exact ownsRow_sortedI hl hg hb h1 h2 h3
theorem compact_own (h:w.ownsRow base 3 1 v ys.length (ys.map (Value.int .i64))) (hn:ys.length≤1000000000000) :
  Calls Tryz.prog 122 #[v] w fun e w'=>∃ v',e=.returned v'∧w'.ownsRow base 3 1 v' (Lib.compact ys).length ((Lib.compact ys).map (Value.int .i64))∧Below base w w':=by
 rcases h.2 with ⟨rfl,h0⟩ | ⟨g,cap,cur,rfl,hg,hb,h1,h2,h3,h4⟩
 ·have e:ys=[]:=List.eq_nil_of_length_eq_zero h0
  subst e
  refine (Tryz.slices_Compact_int_empty none 0 w).mono ?_
  rintro e w' ⟨rfl,rfl⟩
  exact ⟨_,rfl,by simpa [Lib.compact,Lib.compactUpTo] using h,Below.refl _ _⟩
 have hH:=holds_of_blockI hb (by simpa using h4)
 have hle:=Lib.compact_length_le ys
 refine (Tryz.slices_Compact_int g 0 cap ys w hH (by omega) h1).mono ?_
 rintro e w' ⟨rfl,q,rfl⟩
 have hc:=Lib.ownsRow_putRow (q:=q) (k:=(Lib.compact ys).length) (ys:=Lib.compact ys++List.replicate (ys.length-(Lib.compact ys).length) 0) h (by simp;omega) hle
 rw [List.take_left] at hc
 exact ⟨_,rfl,hc,Lib.below_putRow (Below.refl _ _) hg⟩
theorem search_S {x:Int} (h:SlN w B s xs) (hs:Rising xs) (hn:xs.length≤1000000000000) :
  Calls Tryz.prog 119 #[s.v,nv x] w fun e w'=>∃ v,e=.returned v∧∃ (k:Int) (b:Bool),v=.tuple #[nv k,.bool b]∧b=decide (x∈xs)∧Below w.heap.size w w':=by
 obtain ⟨A,m,c⟩:=s
 have hl:xs.length=m:=h.len
 by_cases h0:m=0
 ·subst h0
  have e:xs=[]:=List.eq_nil_of_length_eq_zero hl
  subst e
  refine (Tryz.slices_BinarySearch_int_empty A c x w).mono ?_
  rintro e w' ⟨rfl,rfl⟩
  exact ⟨_,rfl,0,false,rfl,by simp,Below.refl _ _⟩
 obtain ⟨b,off,e,hB,hc⟩:=h.2.2.2 (by show 0<m;omega)
 dsimp only at e
 subst e
 subst hl
 refine (Tryz.slices_BinarySearch_int b off xs.length c xs x w (Nat.le_refl _) (by omega) (fun j hj=>hc j _ (by rw [List.getD_eq_getElem?_getD,List.getElem?_eq_getElem hj];rfl)) (by rw [List.take_length];exact rising_le hs)).mono ?_
 rintro e w' ⟨rfl,q,rfl⟩
 refine ⟨_,rfl,_,_,rfl,?_,below_of_drewN _ _⟩
 rw [List.take_length,←List.contains_eq_mem]
/-- A row of one's own that holds these numbers, laid ahead. -/
theorem concatN_S {b:Nat} {t:TypeId} (r:RowAt w b t #[s.v,s2.v]) (h:SlN w B s xs) (h2:SlN w B2 s2 ys) (hB:B≤w.heap.size) (hB2:B2≤w.heap.size) (hn:xs.length+ys.length≤1000000000000) :
  Calls Tryz.prog 120 #[.slice (some ⟨b,0,none⟩) 2 2] w fun e w'=>∃ v,e=.returned v∧w'.ownsRow w.heap.size 3 1 v (xs++ys).length ((xs++ys).map (Value.int .i64))∧Below w.heap.size w w' :=
 (concatN_two b s.m s2.m s.c s2.c w.heap.size s.A s2.A xs ys w (h.more hB).2.2 (h2.more hB2).2.2 (Nat.le_refl _) r.lt (by rw [cell_of_row w b 0 _ t _ r];rfl) (by rw [cell_of_row w b 1 _ t _ r];rfl) (by rw [←h.len,←h2.len];exact hn)).mono fun e w' ⟨v,e1,h1,h2,_⟩=>⟨v,e1,h1,h2⟩
end
/- PnJoin:
  Joined and cut: the program; cut: the document.
-/
def PutN (w:World) (ys:List Int) (v:Value) (w':World):Prop:=∃ r:SlV,v=r.v∧SlN w' w'.heap.size r ys∧Below w.heap.size w w'
theorem own_fr {w:World} {a base k n:Nat} {v:Value} {r:SlV} {xs:List Value} (h:w.ownsRow base 3 1 v k xs) (e:v=r.v) (hb:a≤base):Fr a r:=fun p q=>by
 obtain ⟨A,m,c⟩:=r
 obtain rfl:A=some p:=q
 have:=(h.lt p.block (by rw [e];rfl)).1
 omega
def PutNF (w:World) (ys:List Int) (v:Value) (w':World):Prop:=∃ r:SlV,v=r.v∧SlN w' w'.heap.size r ys∧Fr w.heap.size r∧Below w.heap.size w w'
theorem PutNF.n {w w':World} {ys:List Int} {e:Ending} (h:∃ v,e=.returned v∧PutNF w ys v w'):∃ v,e=.returned v∧PutN w ys v w':=by
 obtain ⟨v,e,r,h1,h2,_,h3⟩:=h
 exact ⟨v,e,r,h1,h2,h3⟩
section
variable {w W:World} {B B2:Nat} {s s2:SlV} {xs ys:List Int}
theorem sortedPF_any (h:SlN W B s xs) (h2:SlN W B2 s2 ys) (hB:B≤W.heap.size) (hB2:B2≤W.heap.size) (hn:xs.length+ys.length≤1000000):Calls Tryz.prog 79 #[s.v,s2.v] W fun e w'=>∃ v,e=.returned v∧PutNF W (riseU (xs++ys)) v w':=by
 refine Qf (n:=14) Tryz.func79 rfl Tryz.ntmps79 (by simp) ?_
 show CG _ _ _ [(0,s.v),(1,s2.v)] _ _
 have u:=Below.refl W.heap.size W
 refine ZrA ?_
 refine Zn [0,1,4] ?_
 refine ZrM ?_
 refine ZM ?_
 refine lg_bslice (el:=32) (z:=.slice none 0 0) (cs:=#[s.v,s2.v]) (by kernel_rfl) (by kernel_rfl) (by decide) (by decide) rfl rfl (by kernel_rfl) rfl rfl (by decide) fun b1 w1 n1=>?_
 have r1:=n1.row
 have k1:=n1.blk
 have z1:=n1.size
 have lt1:b1<w1.heap.size:=by omega
 have h:=h.below (n1.below.mono (by omega))
 have h2:=h2.below (n1.below.mono (by omega))
 refine Zc (concatN_S r1 h h2 (by omega) (by omega) (by omega)) rfl rfl ?_
 rintro v2 w2 ⟨g2,hw2⟩
 have zw2:=hw2.size
 obtain ⟨C3,hC3⟩:∃ q,q=w1.heap.size:=⟨_,rfl⟩
 rw [←hC3] at g2
 refine ZAn [4,5] ?_
 refine ZrM ?_
 refine Zc (sort_own g2 (by simp only [List.length_append];omega) (by omega)) rfl rfl ?_
 rintro _ w4 ⟨rfl,g4,hw4⟩
 have zw4:=hw4.size
 refine Zn [4,5] ?_
 refine ZrM ?_
 refine Zc (compact_own g4 (by rw [List.length_mergeSort];first | omega | (simp only [List.length_append];omega))) rfl rfl ?_
 rintro v5 w5 ⟨g5,hw5⟩
 have zw5:=hw5.size
 refine ZAnr [4] ?_
 have gq:=g5
 rw [compact_sorted] at gq
 obtain ⟨r,er,hr⟩:=own_SlN gq
 have u:=Un (Un u n1.below) hw2
 have u:=(u.trans (hw4.mono (by omega))).trans (hw5.mono (by omega))
 exact Qa rfl rfl ⟨_,rfl,r,er,hr,own_fr (n:=0) gq er (by omega),u⟩
theorem sortedP_any (h:SlN W B s xs) (h2:SlN W B2 s2 ys) (hB:B≤W.heap.size) (hB2:B2≤W.heap.size) (hn:xs.length+ys.length≤1000000):Calls Tryz.prog 79 #[s.v,s2.v] W fun e w'=>∃ v,e=.returned v∧PutN W (riseU (xs++ys)) v w':=(sortedPF_any h h2 hB hB2 hn).mono fun e w' h=>PutNF.n h
theorem thinnedPF_any (h:SlN W B s xs) (h2:SlN W B2 s2 ys) (hrise:Rising ys) (hB:B≤W.heap.size) (hB2:B2≤W.heap.size) (hn:xs.length≤1000000) (hn2:ys.length≤1000000):Calls Tryz.prog 78 #[s.v,s2.v] W fun e w'=>∃ v,e=.returned v∧PutNF W (cutK xs ys) v w':=by
 refine Qf (n:=30) Tryz.func78 rfl Tryz.ntmps78 (by simp) ?_
 show CG _ _ _ [(0,s.v),(1,s2.v)] _ _
 have u:=Below.refl W.heap.size W
 have le_h:=h.len;have ca_h:=h.cap
 have le_h2:=h2.len;have ca_h2:=h2.cap
 refine ZrA ?_
 refine Zn [0,1,4] ?_
 refine ZrA ?_
 refine Zn [0,1,4,5] ?_
 refine Qd ?_
 refine ZrM ?_
 refine Za (y_lenM (el:=3) h.len) ?_
 refine ZM ?_
 refine Zn [1,4,5,10,11,12] ?_
 refine Qj ?_
 obtain ⟨C,hC⟩:∃ q,q=W.heap.size:=⟨_,rfl⟩
 refine Qr (fun t a v=>∃ (r:SlV),Holds 30 [(1,s2.v),(5,r.v),(10,s.v),(11,nv (xs.length:Int)),(12,nv ((t:Nat):Int))] a∧SlN v B s xs∧SlN v B2 s2 ys∧Below W.heap.size W v∧t≤xs.length∧C≤v.heap.size∧v.ownsRow C 3 1 r.v (cutK (xs.take t) ys).length ((cutK (xs.take t) ys).map (Value.int .i64))) xs.length (fun a ha=>⟨nilS,ha.keep (fk rfl (fk rfl (fk rfl (fk rfl (fk rfl fn))))),h,h2,u,(Nat.zero_le _),(by omega),(own_nilN _ _)⟩) ?_
 rintro t a v ht ⟨r,ha,h,h2,u,tle,cC,own⟩
 refine cg_at ha ?_
 clear ha a
 have zv:=u.size
 have lc:=cutK_length (xs.take t) ys
 rw [List.length_take] at lc
 refine Zr ?_
 by_cases c1:((t:Nat):Int)<(xs.length:Int)
 ·refine Zan (yb (dT c1) yi_lss) [1,5,10,11,12,13] ?_
  refine Qd ?_
  refine cg_ct rfl ?_
  refine Zki [1,5,10,11,12] ?_
  refine Qd ?_
  refine Qj ?_
  refine Zr ?_
  refine Za (y_ixT (i:=t) (iI:=((t:Nat):Int)) h (by omega) (by omega) rfl rfl rfl) ?_
  refine Za (y_ldT (i:=t) h (by omega) rfl rfl) ?_
  refine ZAn [1,5,10,11,12,7] ?_
  refine ZrM ?_
  refine ZM ?_
  by_cases c2:(xs.getD t 0)∈ys
  ·refine Zc (search_S h2 hrise (by omega)) rfl rfl ?_
   rintro _ w3 ⟨k3,bb3,rfl,e3,hw3⟩
   have zw3:=hw3.size
   obtain rfl:bb3=true:=e3.trans (decide_eq_true c2)
   refine ZM ?_
   refine Za y_extract ?_
   refine Za y_extract ?_
   refine ZA ?_
   refine ZAn [1,5,10,11,12,7,9] ?_
   refine ZrM ?_
   refine Zan y_bnot [1,5,10,11,12,7,23] ?_
   refine cg_cf rfl ?_
   refine cg_skip ?_
   refine Qi ?_
   refine Nx [1,5,10,11,12] ?_
   refine Qe ?_
   refine Za (yv (congrArg nv (show ((t:Nat):Int)+1=((t+1:Nat):Int) by omega)) (yi_add rfl rfl rfl (by omega) (by omega))) ?_
   refine ZM ?_
   refine Qk ?_
   have own:=own_below own hw3
   have h:=h.below (hw3.mono (by omega))
   have h2:=h2.below (hw3.mono (by omega))
   have u:=Un u hw3
   exact fun a ha=>(show t<xs.length∧_ from ⟨(by omega),r,ha.keep (fk rfl (fk rfl (fk rfl (fk rfl (fk rfl fn))))),h,h2,u,(by omega),(by omega),(by rw [cutK_take (by omega),if_pos c2,List.append_nil];exact own)⟩)
  refine Zc (search_S h2 hrise (by omega)) rfl rfl ?_
  rintro _ w4 ⟨k4,bb4,rfl,e4,hw4⟩
  have zw4:=hw4.size
  obtain rfl:bb4=false:=e4.trans (decide_eq_false c2)
  refine ZM ?_
  refine Za y_extract ?_
  refine Za y_extract ?_
  refine ZA ?_
  refine ZAn [1,5,10,11,12,7,9] ?_
  refine ZrM ?_
  refine Zan y_bnot [1,5,10,11,12,7,23] ?_
  refine cg_ct rfl ?_
  refine Qe ?_
  refine ZM ?_
  refine ZM ?_
  refine lg_bslice (el:=3) (z:=nv 0) (cs:=#[nv (xs.getD t 0)]) huIs (by kernel_rfl) (by decide) (by decide) rfl rfl (by kernel_rfl) rfl rfl (by decide) fun b5 w5 n5=>?_
  have r5:=n5.row
  have k5:=n5.blk
  have z5:=n5.size
  have m5:SlN w5 (b5+1) ⟨some ⟨b5,0,none⟩,1,1⟩ [(xs.getD t 0)]:=new_SlN (xs:=[(xs.getD t 0)]) r5 rfl (of_decide_eq_true (by kernel_rfl))
  have og5:w5.ownsRow b5 3 1 (.slice (some ⟨b5,0,none⟩) 1 1) ([(xs.getD t 0)]:List Int).length (([(xs.getD t 0)]:List Int).map (Value.int .i64)):=new_ownN (xs:=[(xs.getD t 0)]) n5 rfl (of_decide_eq_true (by kernel_rfl))
  have own:=own_below own hw4
  have own:=own_below own n5.below
  refine lg_appT own m5 (by simp only [List.length_cons,List.length_nil];omega) (by omega) Wn rfl rfl rfl rfl rfl (by decide) fun r6 w6 m6 g6 l6 z6=>?_
  refine ZA ?_
  refine Qk ?_
  refine Qi ?_
  refine Nx [1,10,11,12,5] ?_
  refine Qe ?_
  refine Za (yv (congrArg nv (show ((t:Nat):Int)+1=((t+1:Nat):Int) by omega)) (yi_add rfl rfl rfl (by omega) (by omega))) ?_
  refine ZM ?_
  refine Qk ?_
  have h:=((h.below (hw4.mono (by omega))).below (n5.below.mono (by omega))).below (l6.mono (by omega))
  have h2:=((h2.below (hw4.mono (by omega))).below (n5.below.mono (by omega))).below (l6.mono (by omega))
  have u:=Un (Un u hw4) n5.below
  have u:=u.trans (l6.mono (by omega))
  exact fun a ha=>(show t<xs.length∧_ from ⟨(by omega),r6,ha.keep (fk rfl (fk rfl (fk rfl (fk rfl (fk rfl fn))))),h,h2,u,(by omega),(by omega),(by rw [cutK_take (by omega),if_neg c2];exact g6)⟩)
 refine Zan (yb (dF c1) yi_lss) [1,5,10,11,12,13] ?_
 refine Qd ?_
 refine cg_cf rfl ?_
 refine cg_exit ?_
 refine Qh ?_
 refine Qh ?_
 refine Ql ?_
 refine Nx [5] ?_
 refine ZrM ?_
 refine ZAnr [4] ?_
 have gq:=own
 rw [List.take_of_length_le (by omega)] at gq
 obtain ⟨r,er,hr⟩:=own_SlN gq
 exact Qa rfl rfl ⟨_,rfl,r,er,hr,own_fr (n:=0) gq er (by omega),u⟩
theorem cutPF_any (h:SlN W B s xs) (h2:SlN W B2 s2 ys) (hB:B≤W.heap.size) (hB2:B2≤W.heap.size) (hn:xs.length≤900000) (hn2:ys.length≤900000):Calls Tryz.prog 42 #[s.v,s2.v] W fun e w'=>∃ v,e=.returned v∧PutNF W (cutK xs ys) v w':=by
 refine Qf (n:=9) Tryz.func42 rfl Tryz.ntmps42 (by simp) ?_
 show CG _ _ _ [(0,s.v),(1,s2.v)] _ _
 have u:=Below.refl W.heap.size W
 refine ZrA ?_
 refine Zn [0,1,4] ?_
 refine ZrM ?_
 refine ZM ?_
 refine Zc (sortedP_any h2 (SlN.nil _ _) (by omega) (by omega) (by simp only [List.length_nil];omega)) rfl rfl ?_
 rintro _ w1 ⟨r1,rfl,m1,hw1⟩
 have zw1:=hw1.size
 rw [List.append_nil] at m1
 have lr1:=riseU_length ys
 have h:=h.below (hw1.mono (by omega))
 refine Zc (thinnedPF_any h m1 (riseU_rising _) (by omega) (by omega) (by omega) (by omega)) rfl rfl ?_
 rintro _ w2 ⟨r2,rfl,m2,f2,hw2⟩
 have zw2:=hw2.size
 refine ZAnr [4] ?_
 have u:=Un (Un u hw1) hw2
 exact Qa rfl rfl ⟨_,rfl,r2,rfl,m2.cast (cutK_congr fun _=>riseU_mem),Fr.le f2 (by omega),u⟩
end
/- PnFr:
  What is cut lies in memory of its own: said with PnJoin since layer 14.
-/

/- TrClr:
  Trees: a leaf and its way up are blank.
-/
theorem clone_any {W:World} {s:SlV} {Ls:List Nd} {bc:Nat} (h:RwNd W W.heap.size s Ls) (hb:bc=W.heap.size) (hpos:0<Ls.length) (hle:Ls.length≤1000000):Calls Tryz.prog 41 #[s.v] W fun e W'=>∃ v,e=.returned v∧∃ r:SlV,v=r.v∧OwnNd W' bc bc r.v Ls∧Below W.heap.size W W':=by
 refine Qf (n:=8) Tryz.func41 rfl Tryz.ntmps41 (by simp) ?_
 show CG _ _ _ [(0,s.v)] _ _
 have u:=Below.refl W.heap.size W
 have q1:=h.len
 have q2:=h.cap
 obtain ⟨b0,o0,hA,_⟩:=h.2.2.2 (by omega)
 refine ZrA ?_
 refine Zn [0,2] ?_
 refine Qd ?_
 refine ZrM ?_
 refine Zan (y_nilR hA) [0,2,4] ?_
 refine Zcf [0,2] ?_
 refine Zr ?_
 obtain ⟨bs2,hbs2⟩:∃ q,q=W.heap.size:=⟨_,rfl⟩
 refine lg_bs0R Wn rfl rfl (by decide) fun v1 w1 g1 l1=>?_
 rw [←hbs2] at g1
 have z1:=l1.size
 refine ZM ?_
 have h:=h.below (l1.mono (by omega))
 refine lg_appR g1 (h.src.more (B':=bs2) (by omega)) (Nat.le_refl _) (by simp only [List.length_nil];omega) (by omega) Wn rfl rfl rfl rfl rfl (by decide) fun r3 w3 g3 m3 l3 z3=>?_
 rw [List.nil_append] at g3
 clear m3
 refine ZAnr [2] ?_
 have u:=Un u l1
 have u:=u.trans (l3.mono (by omega))
 exact Qa rfl rfl ⟨_,rfl,_,rfl,by rw [hb];first | assumption | (subst bs2;assumption),u⟩
/- HsDrop:
  A tree without some leaves: the program.
-/
set_option maxRecDepth 20000
/-- Where a number stands first. -/
def idxI (xs:List Int) (x:Int):Int:=if x∈xs then ((xs.takeWhile fun y=>!decide (x=y)).length:Int) else -1
theorem idxI_at:∀ {xs:List Int} {x:Int} {t:Nat},(∀ j,j<t→¬x=xs.getD j 0)→t<xs.length→x=xs.getD t 0→idxI xs x=(t:Int):=by
 intro xs x t hno ht hx
 have he:x∈xs:=by rw [hx];exact getD_in ht
 rw [idxI,if_pos he]
 refine congrArg Int.ofNat ?_
 clear he
 induction xs generalizing t with
 | nil=>exact absurd ht (Nat.not_lt_zero _)
 | cons y r ih =>
  cases t with
  | zero =>
   have hx':x=y:=hx
   rw [List.takeWhile_cons,decide_eq_true hx']
   rfl
  | succ t =>
   have h0:¬x=y:=hno 0 (by omega)
   rw [List.takeWhile_cons,decide_eq_false h0]
   show (y::_).length=_
   rw [List.length_cons,ih (fun j hj=>hno (j+1) (by omega)) (by simpa using ht) hx]
theorem idxI_no {xs:List Int} {x:Int} (h:∀ j,j<xs.length→¬x=xs.getD j 0):idxI xs x=-1:=by
 rw [idxI,if_neg]
 intro hx
 obtain ⟨i,hi,e⟩:=mem_getD hx
 exact h i hi e.symm
theorem idxI_iff (xs:List Int) (x:Int):0≤idxI xs x↔x∈xs:=by
 unfold idxI
 split
 ·rename_i h
  exact ⟨fun _=>h,fun _=>by omega⟩
 rename_i h
 exact ⟨fun q=>absurd q (by decide),fun q=>absurd q h⟩
section
variable {w W:World} {B B2:Nat} {s s2:SlV} {xs ys:List Int}
theorem indexI_any (h:SlN w B s xs) (x:Int):Calls Tryz.prog 91 #[s.v,nv x] w fun e w'=>e=.returned (nv (idxI xs x))∧w'=w:=by
 refine Qf (n:=19) Tryz.func91 rfl Tryz.ntmps91 (by simp) ?_
 show CG _ _ _ [(0,s.v),(1,nv x)] _ _
 refine ZrA ?_
 refine Zn [0,1,4] ?_
 refine Qd ?_
 refine ZrM ?_
 refine Za (y_lenM (el:=3) h.len) ?_
 refine ZM ?_
 refine Zn [0,1,4,7,8] ?_
 refine Qj ?_
 refine Qr (fun t a v=>Holds 19 [(0,s.v),(1,nv x),(7,nv (xs.length:Int)),(8,nv ((t:Nat):Int))] a∧v=w∧t≤xs.length∧(∀ j,j<t→¬x=(xs.getD j 0))) (xs.length+1) (fun a ha=>⟨ha.keep (fk rfl (fk rfl (fk rfl (fk rfl fn)))),rfl,(Nat.zero_le _),(fun j hj=>absurd hj (Nat.not_lt_zero _))⟩) ?_
 rintro t a v ht ⟨ha,rfl,tle,hno⟩
 refine cg_at ha ?_
 clear ha a
 have le_h:=h.len;have ca_h:=h.cap
 refine Zr ?_
 by_cases c1:((t:Nat):Int)<(xs.length:Int)
 ·refine Zan (yb (dT c1) yi_lss) [0,1,7,8,9] ?_
  refine Qd ?_
  refine cg_ct rfl ?_
  refine Zki [0,1,7,8] ?_
  refine Qd ?_
  refine Qj ?_
  refine ZrM ?_
  refine ZAn [0,1,7,8,5] ?_
  refine ZrM ?_
  refine ZM ?_
  refine ZM ?_
  refine Za (y_ixT (i:=t) (iI:=((t:Nat):Int)) h (by omega) (by omega) rfl rfl rfl) ?_
  refine Za (y_ldT (i:=t) h (by omega) rfl rfl) ?_
  by_cases c2:x=(xs.getD t 0)
  ·refine Zan (yb (dT c2) yi_eql) [0,1,7,8,5,16] ?_
   refine cg_ct rfl ?_
   refine ZrM ?_
   refine ZAnr [0,1,7,8,4] ?_
   refine Qg ?_
   refine Qc ?_
   refine Qc ?_
   refine Qg ?_
   refine Qc ?_
   exact Qa rfl rfl ⟨congrArg (fun b=>Ending.returned (nv b)) (idxI_at hno (by omega) c2).symm,rfl⟩
  refine Zan (yb (dF c2) yi_eql) [0,1,7,8,5,16] ?_
  refine cg_cf rfl ?_
  refine cg_skip ?_
  refine Qi ?_
  refine Nx [0,1,7,8] ?_
  refine Qe ?_
  refine Za (yv (congrArg nv (show ((t:Nat):Int)+1=((t+1:Nat):Int) by omega)) (yi_add rfl rfl rfl (by omega) (by omega))) ?_
  refine ZM ?_
  refine Qk ?_
  exact fun a ha=>(show t<(xs.length+1)∧_ from ⟨(by omega),ha.keep (fk rfl (fk rfl (fk rfl (fk rfl fn)))),rfl,(by omega),(fun j hj=>if q:j<t then hno j q else by
    obtain rfl:j=t:=by omega
    exact c2)⟩)
 refine Zan (yb (dF c1) yi_lss) [0,1,7,8,9] ?_
 refine Qd ?_
 refine cg_cf rfl ?_
 refine cg_exit ?_
 refine Qh ?_
 refine Qh ?_
 refine Ql ?_
 refine nx (E':=[]) fn ?_
 refine ZrA ?_
 refine Znr [4] ?_
 exact Qa rfl rfl ⟨congrArg (fun b=>Ending.returned (nv b)) (idxI_no fun j hj=>hno j (by omega)).symm,rfl⟩
theorem containsI_any (h:SlN w B s xs) (x:Int):Calls Tryz.prog 57 #[s.v,nv x] w fun e w'=>e=.returned (.bool (decide (x∈xs)))∧w'=w:=by
 refine Qf (n:=9) Tryz.func57 rfl Tryz.ntmps57 (by simp) ?_
 show CG _ _ _ [(0,s.v),(1,nv x)] _ _
 refine ZrA ?_
 refine Zn [0,1,4] ?_
 refine ZrM ?_
 refine ZM ?_
 refine Za (Qp (indexI_any h x)) ?_
 by_cases c1:0≤(idxI xs x)
 ·refine Za (yb (dT c1) yi_geq) ?_
  refine ZAnr [4] ?_
  exact Qa rfl rfl ⟨congrArg (fun b=>Ending.returned (.bool b)) (dT ((idxI_iff xs x).1 c1)).symm,rfl⟩
 refine Za (yb (dF c1) yi_geq) ?_
 refine ZAnr [4] ?_
 exact Qa rfl rfl ⟨congrArg (fun b=>Ending.returned (.bool b)) (dF (fun q=>c1 ((idxI_iff xs x).2 q))).symm,rfl⟩
theorem numbers_any (h:SlN W B s xs) (hB:B≤W.heap.size) (hn:xs.length≤900000):Calls Tryz.prog 39 #[s.v] W fun e W'=>∃ v,e=.returned v∧∃ r:SlV,v=r.v∧SlN W' W'.heap.size r (numG xs)∧Below W.heap.size W W':=by
 have h:=h.more hB
 refine Qf (n:=30) Tryz.func39 rfl Tryz.ntmps39 (by simp) ?_
 show CG _ _ _ [(0,s.v)] _ _
 have u:=Below.refl W.heap.size W
 have le_h:=h.len;have ca_h:=h.cap
 refine ZrA ?_
 refine Zn [0,2] ?_
 refine ZrA ?_
 refine Zn [0,2,3] ?_
 refine Qd ?_
 refine ZrM ?_
 refine Za (y_lenM (el:=3) h.len) ?_
 refine ZM ?_
 refine Zn [2,3,6,7,8] ?_
 refine Qj ?_
 obtain ⟨C,hC⟩:∃ q,q=W.heap.size:=⟨_,rfl⟩
 refine Qr (fun t a v=>∃ (qr:SlV),Holds 30 [(3,qr.v),(6,s.v),(7,nv (xs.length:Int)),(8,nv ((t:Nat):Int))] a∧SlN v W.heap.size s xs∧v.ownsRow C 3 1 qr.v (numG (xs.take t)).length ((numG (xs.take t)).map (Value.int .i64))∧Below W.heap.size W v∧C≤v.heap.size∧t≤xs.length∧W.heap.size≤C) (xs.length+1) (fun a ha=>⟨nilS,ha.keep (fk rfl (fk rfl (fk rfl (fk rfl fn)))),h,(own_nilN _ _),u,(by omega),(Nat.zero_le _),(by omega)⟩) ?_
 rintro t a v ht ⟨qr,ha,h,g0,u,cC,tle,cW⟩
 refine cg_at ha ?_
 clear ha a
 have zv:=u.size
 have le_h:=h.len;have ca_h:=h.cap
 have lg:=numG_le (xs.take t)
 rw [List.length_take] at lg
 refine Zr ?_
 by_cases c1:((t:Nat):Int)<(xs.length:Int)
 ·refine Zan (yb (dT c1) yi_lss) [3,6,7,8,9] ?_
  refine Qd ?_
  refine cg_ct rfl ?_
  refine Zki [3,6,7,8] ?_
  refine Qd ?_
  refine Qj ?_
  refine Zr ?_
  refine Za (y_ixT (i:=t) (iI:=((t:Nat):Int)) h (by omega) (by omega) rfl rfl rfl) ?_
  refine Za (y_ldT (i:=t) h (by omega) rfl rfl) ?_
  refine ZAn [3,6,7,8,5] ?_
  refine Qd ?_
  have hs:=numG_take (l:=xs) (k:=t) (by omega)
  refine Qe ?_
  refine ZM ?_
  by_cases c2:0≤(xs.getD t 0)
  ·refine Za (yb (dT c2) yi_geq) ?_
   refine ZM ?_
   refine Zt 14 y_move ?_
   by_cases c3:(xs.getD t 0)<64
   ·refine Zt 14 (yb (dT c3) yi_lss) ?_
    refine Za (y_pick true) ?_
    refine ZM ?_
    refine Zt 18 y_move ?_
    refine Zt 18 y_move ?_
    by_cases c4:(xs.getD t 0)∈(numG (xs.take t))
    ·refine Zt 18 (yb (dT c4) (Qp (containsI_any (own_num g0) (xs.getD t 0)))) ?_
     refine Zt 18 y_bnot ?_
     refine Zan (y_pick true) [3,6,7,8,5,23] ?_
     refine cg_cf rfl ?_
     refine cg_skip ?_
     refine Qi ?_
     refine Nx [3,6,7,8] ?_
     refine Qe ?_
     refine Za (yv (congrArg nv (show ((t:Nat):Int)+1=((t+1:Nat):Int) by omega)) (yi_add rfl rfl rfl (by omega) (by omega))) ?_
     refine ZM ?_
     refine Qk ?_
     exact fun a ha=>(show t<(xs.length+1)∧_ from ⟨(by omega),qr,ha.keep (fk rfl (fk rfl (fk rfl (fk rfl fn)))),h,(own_castN g0 (by rw [hs,if_neg (fun q=>q.2.2 c4)])),u,(by omega),(by omega),cW⟩)
    refine Zt 18 (yb (dF c4) (Qp (containsI_any (own_num g0) (xs.getD t 0)))) ?_
    refine Zt 18 y_bnot ?_
    refine Zan (y_pick true) [3,6,7,8,5,23] ?_
    refine cg_ct rfl ?_
    refine Qe ?_
    refine ZM ?_
    refine ZM ?_
    refine lg_bslice (el:=3) (z:=nv 0) (cs:=#[nv (xs.getD t 0)]) huIs (by kernel_rfl) (by decide) (by decide) rfl rfl (by kernel_rfl) rfl rfl (by decide) fun b5 w5 n5=>?_
    have r5:=n5.row
    have k5:=n5.blk
    have z5:=n5.size
    have m5:SlN w5 (b5+1) ⟨some ⟨b5,0,none⟩,1,1⟩ [(xs.getD t 0)]:=new_SlN (xs:=[(xs.getD t 0)]) r5 rfl (of_decide_eq_true (by kernel_rfl))
    have og5:w5.ownsRow b5 3 1 (.slice (some ⟨b5,0,none⟩) 1 1) ([(xs.getD t 0)]:List Int).length (([(xs.getD t 0)]:List Int).map (Value.int .i64)):=new_ownN (xs:=[(xs.getD t 0)]) n5 rfl (of_decide_eq_true (by kernel_rfl))
    have g0:=own_below g0 n5.below
    refine lg_appT g0 m5 (by simp only [List.length_cons,List.length_nil];omega) (by omega) Wn rfl rfl rfl rfl rfl (by decide) fun r6 w6 m6 g6 l6 z6=>?_
    refine ZA ?_
    refine Qk ?_
    refine Qi ?_
    refine Nx [6,7,8,3] ?_
    refine Qe ?_
    refine Za (yv (congrArg nv (show ((t:Nat):Int)+1=((t+1:Nat):Int) by omega)) (yi_add rfl rfl rfl (by omega) (by omega))) ?_
    refine ZM ?_
    refine Qk ?_
    have h:=(h.below (n5.below.mono (by omega))).below (l6.mono (by omega))
    have u:=Un u n5.below
    have u:=u.trans (l6.mono (by omega))
    exact fun a ha=>(show t<(xs.length+1)∧_ from ⟨(by omega),r6,ha.keep (fk rfl (fk rfl (fk rfl (fk rfl fn)))),h,(own_castN g6 (by rw [hs,if_pos ⟨c2,c3,c4⟩])),u,(by omega),(by omega),cW⟩)
   refine Zt 14 (yb (dF c3) yi_lss) ?_
   refine Za (y_pick true) ?_
   refine ZM ?_
   refine Zf 18 ?_
   refine Zf 18 ?_
   refine Zf 18 ?_
   refine Zf 18 ?_
   refine Zan (y_pick false) [3,6,7,8,5,23] ?_
   refine cg_cf rfl ?_
   refine cg_skip ?_
   refine Qi ?_
   refine Nx [3,6,7,8] ?_
   refine Qe ?_
   refine Za (yv (congrArg nv (show ((t:Nat):Int)+1=((t+1:Nat):Int) by omega)) (yi_add rfl rfl rfl (by omega) (by omega))) ?_
   refine ZM ?_
   refine Qk ?_
   exact fun a ha=>(show t<(xs.length+1)∧_ from ⟨(by omega),qr,ha.keep (fk rfl (fk rfl (fk rfl (fk rfl fn)))),h,(own_castN g0 (by rw [hs,if_neg (fun q=>c3 q.2.1)])),u,(by omega),(by omega),cW⟩)
  refine Za (yb (dF c2) yi_geq) ?_
  refine ZM ?_
  refine Zf 14 ?_
  refine Zf 14 ?_
  refine Za (y_pick false) ?_
  refine ZM ?_
  refine Zf 18 ?_
  refine Zf 18 ?_
  refine Zf 18 ?_
  refine Zf 18 ?_
  refine Zan (y_pick false) [3,6,7,8,5,23] ?_
  refine cg_cf rfl ?_
  refine cg_skip ?_
  refine Qi ?_
  refine Nx [3,6,7,8] ?_
  refine Qe ?_
  refine Za (yv (congrArg nv (show ((t:Nat):Int)+1=((t+1:Nat):Int) by omega)) (yi_add rfl rfl rfl (by omega) (by omega))) ?_
  refine ZM ?_
  refine Qk ?_
  exact fun a ha=>(show t<(xs.length+1)∧_ from ⟨(by omega),qr,ha.keep (fk rfl (fk rfl (fk rfl (fk rfl fn)))),h,(own_castN g0 (by rw [hs,if_neg (fun q=>c2 q.1)])),u,(by omega),(by omega),cW⟩)
 refine Zan (yb (dF c1) yi_lss) [3,6,7,8,9] ?_
 refine Qd ?_
 refine cg_cf rfl ?_
 refine cg_exit ?_
 refine Qh ?_
 refine Qh ?_
 refine Ql ?_
 refine Nx [3] ?_
 refine ZrM ?_
 refine ZAnr [2] ?_
 obtain rfl:t=xs.length:=by omega
 exact Qa rfl rfl ⟨_,rfl,_,rfl,own_num (own_castN g0 (by rw [List.take_length])),u⟩
end
section
variable {E:Env} {o:Oper} {w:World} {x y:Operand} {t':TypeId} {s:SlV}
theorem y_nilRt (hA:s.A=none) (ho:o.op=.binOp .eql 22 x y t') (hx:val E x=some s.v) (hy:val E y=some (.slice none 0 0)):Yields Tryz.prog E o w (.bool true) :=
 y_bin (fun x y w=>by
  obtain ⟨A,m,c⟩:=s
  simp only at hA
  subst hA
  rfl) ho hx hy
end
theorem cloneN_any {W:World} {s:SlV} {Ls:List Nd} (h:RwNd W W.heap.size s Ls) (hle:Ls.length≤1000000) (hA:s.A=none) (h0:Ls=[]):Calls Tryz.prog 41 #[s.v] W fun e W'=>∃ v,e=.returned v∧∃ r:SlV,v=r.v∧RwNd W' W'.heap.size r (Ls)∧Below W.heap.size W W':=by
 subst h0
 refine Qf (n:=8) Tryz.func41 rfl Tryz.ntmps41 (by simp) ?_
 show CG _ _ _ [(0,s.v)] _ _
 have u:=Below.refl W.heap.size W
 have q1:=h.len
 have q2:=h.cap
 refine ZrA ?_
 refine Zn [0,2] ?_
 refine Qd ?_
 refine ZrM ?_
 refine Zan (y_nilRt hA rfl rfl rfl) [0,2,4] ?_
 refine cg_ct rfl ?_
 refine ZrA ?_
 refine Znr [0,2] ?_
 refine Qc ?_
 exact Qa rfl rfl ⟨_,rfl,nilS,rfl,RwNd.nil _ _,u⟩
theorem cloneE_any {W:World} {s:SlV} {Ls:List Nd} (h:RwNd W W.heap.size s Ls) (hle:Ls.length≤1000000) {b0:Addr} (hA:s.A=some b0) (h0:Ls=[]):Calls Tryz.prog 41 #[s.v] W fun e W'=>∃ v,e=.returned v∧∃ r:SlV,v=r.v∧RwNd W' W'.heap.size r (Ls)∧Below W.heap.size W W':=by
 refine Qf (n:=8) Tryz.func41 rfl Tryz.ntmps41 (by simp) ?_
 show CG _ _ _ [(0,s.v)] _ _
 have u:=Below.refl W.heap.size W
 have q1:=h.len
 have q2:=h.cap
 refine ZrA ?_
 refine Zn [0,2] ?_
 refine Qd ?_
 refine ZrM ?_
 refine Zan (y_nilR hA) [0,2,4] ?_
 refine Zcf [0,2] ?_
 refine Zr ?_
 obtain ⟨bs2,hbs2⟩:∃ q,q=W.heap.size:=⟨_,rfl⟩
 refine lg_bs0R Wn rfl rfl (by decide) fun v1 w1 g1 l1=>?_
 rw [←hbs2] at g1
 have z1:=l1.size
 refine ZM ?_
 have h:=h.below (l1.mono (by omega))
 refine lg_appR g1 (h.src.more (B':=bs2) (by omega)) (Nat.le_refl _) (by simp only [List.length_nil];omega) (by omega) Wn rfl rfl rfl rfl rfl (by decide) fun r3 w3 g3 m3 l3 z3=>?_
 rw [List.nil_append] at g3
 clear m3
 refine ZAnr [2] ?_
 have u:=Un u l1
 have u:=u.trans (l3.mono (by omega))
 exact Qa rfl rfl ⟨_,rfl,_,rfl,(g3.rowS (by omega)),u⟩
theorem clone0_any {W:World} {s:SlV} (h:RwNd W W.heap.size s []):Calls Tryz.prog 41 #[s.v] W fun e W'=>∃ v,e=.returned v∧∃ r:SlV,v=r.v∧RwNd W' W'.heap.size r ([])∧Below W.heap.size W W':=by
 cases hA:s.A with
 | none=>exact cloneN_any h (by simp) hA rfl
 | some b=>exact cloneE_any h (by simp) hA rfl
theorem drop_unm {t:List Nd} (ht:trIs t) (l:List Int) {k i:Nat} (hi:i<t.length):(atN (cutL l k (zapL l t)) i).inner.unm.length≤64:=by
 have h:=(unm_small ht i).2
 rw [cutL_at (by rw [zapL_len];exact hi),zap_at hi]
 have hz:(zapN l i (atN t i)).inner.unm.length≤64:=by
  unfold zapN
  split
  ·exact Nat.zero_le _
  exact h
 split
 ·exact Nat.le_trans (cutK_length _ _) hz
 exact hz
theorem dropN_any {Ls:List Nd} {W:World} {B:Nat} {s r:SlV} {xs:List Int} (h:RwNd W B s Ls) (hn:SlN W B r xs) (hB:B≤W.heap.size) (hl:xs.length≤900000) (hno:¬trIs Ls):Calls Tryz.prog 16 #[s.v,r.v] W fun e W'=>∃ v,e=.returned v∧∃ r:SlV,v=r.v∧RwNd W' W'.heap.size r (dropL xs (trAs Ls))∧Below W.heap.size W W':=by
 have h:=h.more hB
 have hn:=hn.more hB
 refine Qf (n:=55) Tryz.func16 rfl Tryz.ntmps16 (by simp) ?_
 show CG _ _ _ [(0,s.v),(1,r.v)] _ _
 have u:=Below.refl W.heap.size W
 have q1:=h.len
 have q2:=h.cap
 have q3:=hn.len
 have q4:=hn.cap
 refine ZrA ?_
 refine Zn [0,1,4] ?_
 refine Qd ?_
 refine ZrM ?_
 refine Zc (sane_any (h.more (B':=W.heap.size) (by omega)) (Nat.le_refl _)) rfl rfl ?_
 rintro u1 w1 ⟨e1,hw1⟩
 have zw1:=hw1.size
 obtain rfl:u1=.bool false:=e1.trans (congrArg Value.bool (decide_eq_false hno))
 refine Zan y_bnot [0,1,4,14] ?_
 refine cg_ct rfl ?_
 refine ZrA ?_
 refine Znr [0,1,4] ?_
 refine Qc ?_
 have u:=Un u hw1
 exact Qa rfl rfl ⟨_,rfl,nilS,rfl,(by rw [trAs_no hno];exact RwNd.nil _ _),u⟩
theorem dropE_any {W:World} {B:Nat} {s r:SlV} {xs:List Int} (h:RwNd W B s []) (hn:SlN W B r xs) (hB:B≤W.heap.size) (hl:xs.length≤900000) (hti:trIs []):Calls Tryz.prog 16 #[s.v,r.v] W fun e W'=>∃ v,e=.returned v∧∃ r:SlV,v=r.v∧RwNd W' W'.heap.size r (dropL xs (trAs []))∧Below W.heap.size W W':=by
 have h:=h.more hB
 have hn:=hn.more hB
 refine Qf (n:=55) Tryz.func16 rfl Tryz.ntmps16 (by simp) ?_
 show CG _ _ _ [(0,s.v),(1,r.v)] _ _
 have u:=Below.refl W.heap.size W
 have q1:=h.len
 have q2:=h.cap
 have q3:=hn.len
 have q4:=hn.cap
 have htl:=trIs_le hti
 have hta:=trAs_ok hti
 have hlv:leavesA ([]:List Nd)=(([]:List Nd).length+1) / 2:=rfl
 have hlz:leavesA ([]:List Nd)=0:=rfl
 refine ZrA ?_
 refine Zn [0,1,4] ?_
 refine Qd ?_
 refine ZrM ?_
 refine Zc (sane_any (h.more (B':=W.heap.size) (by omega)) (Nat.le_refl _)) rfl rfl ?_
 rintro u1 w1 ⟨e1,hw1⟩
 have zw1:=hw1.size
 obtain rfl:u1=.bool true:=e1.trans (congrArg Value.bool (decide_eq_true hti))
 refine Zan y_bnot [0,1,4,14] ?_
 refine Zcf [0,1,4] ?_
 refine ZrM ?_
 have hn:=hn.below (hw1.mono (by omega))
 refine Zc (numbers_any (hn.more (B':=w1.heap.size) (by omega)) (Nat.le_refl _) (by omega)) rfl rfl ?_
 rintro _ w2 ⟨r2,rfl,m2,hw2⟩
 have zw2:=hw2.size
 have gl2:=numG_le xs
 refine ZM ?_
 have h:=(h.below (hw1.mono (by omega))).below (hw2.mono (by omega))
 refine Zc ((by have z:=leavesT_any (h.more (B':=w2.heap.size) (by omega)) (Nat.le_refl _);rwa [hta] at z)) rfl rfl ?_
 rintro _ w3 ⟨rfl,hw3⟩
 have zw3:=hw3.size
 refine ZA ?_
 refine ZAn [0,4,5,6] ?_
 refine ZrM ?_
 have h:=h.below (hw3.mono (by omega))
 refine Zc (clone0_any (h.more (B':=w3.heap.size) (by omega))) rfl rfl ?_
 rintro _ w4 ⟨s4,rfl,m4,hw4⟩
 have zw4:=hw4.size
 refine ZAn [4,5,6,7] ?_
 refine Qd ?_
 refine ZrM ?_
 have m2:=(m2.below (hw3.mono (by omega))).below (hw4.mono (by omega))
 refine Za (y_lenM (el:=3) m2.len) ?_
 refine ZM ?_
 refine Zn [4,5,6,7,21,22,23] ?_
 refine Qj ?_
 obtain ⟨C,hC⟩:∃ q,q=w4.heap.size:=⟨_,rfl⟩
 have u:=Un (Un u hw1) hw2
 have u:=Un (Un u hw3) hw4
 refine Qr (fun t a v=>Holds 55 [(5,r2.v),(6,nv ((leavesA ([]:List Nd):Nat):Int)),(7,s4.v),(21,r2.v),(22,nv ((numG xs).length:Int)),(23,nv ((t:Nat):Int))] a∧SlN v C r2 (numG xs)∧Below W.heap.size W v∧C≤v.heap.size∧t≤(numG xs).length∧RwNd v C s4 []) ((numG xs).length+1) (fun a ha=>⟨ha.keep (fk rfl (fk rfl (fk rfl (fk rfl (fk rfl (fk rfl fn)))))),(m2.more (by omega)),u,(by omega),(Nat.zero_le _),(m4.more (by omega))⟩) ?_
 rintro t a v ht ⟨ha,hg,u,cC,tle,go⟩
 refine cg_at ha ?_
 clear ha a
 have zv:=u.size
 have le_g:=hg.len;have ca_g:=hg.cap
 have qg:=go.len
 refine Zr ?_
 by_cases c5:((t:Nat):Int)<((numG xs).length:Int)
 ·refine Zan (yb (dT c5) yi_lss) [5,6,7,21,22,23,24] ?_
  refine Qd ?_
  refine cg_ct rfl ?_
  refine Zki [5,6,7,21,22,23] ?_
  refine Qd ?_
  refine Qj ?_
  refine Zr ?_
  refine Za (y_ixT (i:=t) (iI:=((t:Nat):Int)) hg (by omega) (by omega) rfl rfl rfl) ?_
  refine Za (y_ldT (i:=t) hg (by omega) rfl rfl) ?_
  refine ZAn [5,6,7,21,22,23,9] ?_
  refine Qd ?_
  have htn:t<(numG xs).length:=by omega
  have hmem:=numG_mem.1 (getD_in htn)
  have hm0:=hmem.2
  refine Qe ?_
  refine ZM ?_
  refine ZM ?_
  refine Zan (yb (dF (show ¬(((numG xs).getD t 0)<((leavesA ([]:List Nd):Nat):Int)) from (by omega))) (yi_lss rfl rfl rfl)) [5,6,7,21,22,23,9,29] ?_
  refine cg_cf rfl ?_
  refine cg_skip ?_
  refine Qi ?_
  refine Nx [5,6,7,21,22,23] ?_
  refine Qe ?_
  refine Za (yv (congrArg nv (show ((t:Nat):Int)+1=((t+1:Nat):Int) by omega)) (yi_add rfl rfl rfl (by omega) (by omega))) ?_
  refine ZM ?_
  refine Qk ?_
  exact fun a ha=>(show t<((numG xs).length+1)∧_ from ⟨(by omega),ha.keep (fk rfl (fk rfl (fk rfl (fk rfl (fk rfl (fk rfl fn)))))),hg,u,(by omega),(by omega),go⟩)
 refine Zan (yb (dF c5) yi_lss) [5,6,7,21,22,23,24] ?_
 refine Qd ?_
 refine cg_cf rfl ?_
 refine cg_exit ?_
 refine Qh ?_
 refine Qh ?_
 refine Ql ?_
 refine Nx [5,7] ?_
 refine Qd ?_
 refine ZrM ?_
 refine Za (yv (congrArg nv (by rfl)) (y_lenM (el:=38) go.len (by kernel_rfl) rfl rfl)) ?_
 refine ZM ?_
 refine Zn [5,7,36,37,38] ?_
 refine Qj ?_
 refine Qr (fun k a v=>Holds 55 [(5,r2.v),(7,s4.v),(36,s4.v),(37,nv (0:Int)),(38,nv ((k:Nat):Int))] a∧SlN v C r2 (numG xs)∧Below W.heap.size W v∧C≤v.heap.size∧k≤0∧RwNd v C s4 []) (([]:List Nd).length+1) (fun a ha=>⟨ha.keep (fk rfl (fk rfl (fk rfl (fk rfl (fk rfl fn))))),hg,u,(by omega),(Nat.zero_le _),go⟩) ?_
 rintro k a v ht ⟨ha,hg,u,cC,tle,go⟩
 refine cg_at ha ?_
 clear ha a
 have zv:=u.size
 have le_g:=hg.len;have ca_g:=hg.cap
 refine Zr ?_
 refine Zan (yb (dF (show ¬(((k:Nat):Int)<(0:Int)) from (by omega))) (yi_lss rfl rfl rfl)) [5,7,36,37,38,39] ?_
 refine Qd ?_
 refine cg_cf rfl ?_
 refine cg_exit ?_
 refine Qh ?_
 refine Qh ?_
 refine Ql ?_
 refine Nx [7] ?_
 refine ZrM ?_
 refine ZAnr [4] ?_
 exact Qa rfl rfl ⟨_,rfl,_,rfl,(go.more (by omega)).cast (by rw [hta];rfl),u⟩
theorem dropO_any {Ls:List Nd} {W:World} {B:Nat} {s r:SlV} {xs:List Int} (h:RwNd W B s Ls) (hn:SlN W B r xs) (hB:B≤W.heap.size) (hl:xs.length≤900000) (hti:trIs Ls) (hpos:0<Ls.length):Calls Tryz.prog 16 #[s.v,r.v] W fun e W'=>∃ v,e=.returned v∧∃ r:SlV,v=r.v∧RwNd W' W'.heap.size r (dropL xs (trAs Ls))∧Below W.heap.size W W':=by
 have h:=h.more hB
 have hn:=hn.more hB
 refine Qf (n:=55) Tryz.func16 rfl Tryz.ntmps16 (by simp) ?_
 show CG _ _ _ [(0,s.v),(1,r.v)] _ _
 have u:=Below.refl W.heap.size W
 have q1:=h.len
 have q2:=h.cap
 have q3:=hn.len
 have q4:=hn.cap
 have htl:=trIs_le hti
 have hta:=trAs_ok hti
 have hlv:leavesA Ls=(Ls.length+1) / 2:=rfl
 refine ZrA ?_
 refine Zn [0,1,4] ?_
 refine Qd ?_
 refine ZrM ?_
 refine Zc (sane_any (h.more (B':=W.heap.size) (by omega)) (Nat.le_refl _)) rfl rfl ?_
 rintro u1 w1 ⟨e1,hw1⟩
 have zw1:=hw1.size
 obtain rfl:u1=.bool true:=e1.trans (congrArg Value.bool (decide_eq_true hti))
 refine Zan y_bnot [0,1,4,14] ?_
 refine Zcf [0,1,4] ?_
 refine ZrM ?_
 have hn:=hn.below (hw1.mono (by omega))
 refine Zc (numbers_any (hn.more (B':=w1.heap.size) (by omega)) (Nat.le_refl _) (by omega)) rfl rfl ?_
 rintro _ w2 ⟨r2,rfl,m2,hw2⟩
 have zw2:=hw2.size
 have gl2:=numG_le xs
 refine ZM ?_
 have h:=(h.below (hw1.mono (by omega))).below (hw2.mono (by omega))
 refine Zc ((by have z:=leavesT_any (h.more (B':=w2.heap.size) (by omega)) (Nat.le_refl _);rwa [hta] at z)) rfl rfl ?_
 rintro _ w3 ⟨rfl,hw3⟩
 have zw3:=hw3.size
 refine ZA ?_
 refine ZAn [0,4,5,6] ?_
 refine ZrM ?_
 have h:=h.below (hw3.mono (by omega))
 obtain ⟨bc,hbc⟩:∃ q,q=w3.heap.size:=⟨_,rfl⟩
 refine Zc (clone_any (h.more (B':=w3.heap.size) (by omega)) hbc hpos (by omega)) rfl rfl ?_
 rintro _ w4 ⟨s4,rfl,g4,hw4⟩
 have zw4:=hw4.size
 obtain ⟨ga4,gb4,gn4⟩:=OwnNa.of g4 (Nat.le_refl _) (by omega) hpos
 refine ZAn [4,5,6,7] ?_
 refine Qd ?_
 refine ZrM ?_
 have m2:=(m2.below (hw3.mono (by omega))).below (hw4.mono (by omega))
 refine Za (y_lenM (el:=3) m2.len) ?_
 refine ZM ?_
 refine Zn [4,5,6,7,21,22,23] ?_
 refine Qj ?_
 obtain ⟨C,hC⟩:∃ q,q=w4.heap.size:=⟨_,rfl⟩
 have u:=Un (Un u hw1) hw2
 have u:=Un (Un u hw3) hw4
 refine Qr (fun t a v=>Holds 55 [(5,r2.v),(6,nv ((leavesA Ls:Nat):Int)),(7,s4.v),(21,r2.v),(22,nv ((numG xs).length:Int)),(23,nv ((t:Nat):Int))] a∧SlN v bc r2 (numG xs)∧Below W.heap.size W v∧C≤v.heap.size∧t≤(numG xs).length∧OwnNa v ga4 v.heap.size s4 (zapL ((numG xs).take t) Ls)∧ga4<v.heap.size) ((numG xs).length+1) (fun a ha=>⟨ha.keep (fk rfl (fk rfl (fk rfl (fk rfl (fk rfl (fk rfl fn)))))),(m2.more (by omega)),u,(by omega),(Nat.zero_le _),(gn4.up.cast (zap_none Ls).symm),gn4.lt⟩) ?_
 rintro t a v ht ⟨ha,hg,u,cC,tle,go,gC⟩
 refine cg_at ha ?_
 clear ha a
 have zv:=u.size
 have le_g:=hg.len;have ca_g:=hg.cap
 have zl:=zapL_len ((numG xs).take t) Ls
 have qg:=go.len
 refine Zr ?_
 by_cases c5:((t:Nat):Int)<((numG xs).length:Int)
 ·refine Zan (yb (dT c5) yi_lss) [5,6,7,21,22,23,24] ?_
  refine Qd ?_
  refine cg_ct rfl ?_
  refine Zki [5,6,7,21,22,23] ?_
  refine Qd ?_
  refine Qj ?_
  refine Zr ?_
  refine Za (y_ixT (i:=t) (iI:=((t:Nat):Int)) hg (by omega) (by omega) rfl rfl rfl) ?_
  refine Za (y_ldT (i:=t) hg (by omega) rfl rfl) ?_
  refine ZAn [5,6,7,21,22,23,9] ?_
  refine Qd ?_
  have htn:t<(numG xs).length:=by omega
  have hmem:=numG_mem.1 (getD_in htn)
  have hm0:=hmem.2
  refine Qe ?_
  refine ZM ?_
  refine ZM ?_
  by_cases c6:((numG xs).getD t 0)<((leavesA Ls:Nat):Int)
  ·refine Zan (yb (dT c6) yi_lss) [5,6,7,21,22,23,9,29] ?_
   refine cg_ct rfl ?_
   refine Qe ?_
   refine ZM ?_
   refine ZM ?_
   refine Za (yv (congrArg nv (show 2*((numG xs).getD t 0)=(((2*((numG xs).getD t 0)).toNat:Nat):Int) by omega)) (yi_mul rfl rfl rfl (by omega) (by omega))) ?_
   refine Za (y_build (cs:=NdV.zero.cs Nd.zero)) ?_
   refine Za (y_ixR (s:=s4) (el:=38) (k:=8) (i:=((2*((numG xs).getD t 0)).toNat)) (iI:=(((2*((numG xs).getD t 0)).toNat:Nat):Int)) go.1 (by kernel_rfl) (by kernel_rfl) (by omega) (by have q1:=go.len;first | omega | (simp only [List.length_append,List.length_cons,List.length_nil,List.length_take,List.length_drop,List.length_set,List.length_replicate,clr_len] at q1;omega)) rfl rfl rfl) ?_
   refine lg_stA (i:=((2*((numG xs).getD t 0)).toNat)) go ((IsNd.zero _ 0).more (B':=v.heap.size) (by omega)) (OffNd.zero _) (by omega) Wn rfl rfl rfl rfl fun w7 new7 st7 g7=>?_
   have z7:=st7.size
   refine Qk ?_
   refine Qi ?_
   refine Nx [5,6,7,21,22,23] ?_
   refine Qe ?_
   refine Za (yv (congrArg nv (show ((t:Nat):Int)+1=((t+1:Nat):Int) by omega)) (yi_add rfl rfl rfl (by omega) (by omega))) ?_
   refine ZM ?_
   refine Qk ?_
   have hg:=hg.below (st7.below _ (by omega))
   have u:=u.trans (st7.below _ (by omega))
   exact fun a ha=>(show t<((numG xs).length+1)∧_ from ⟨(by omega),ha.keep (fk rfl (fk rfl (fk rfl (fk rfl (fk rfl (fk rfl fn)))))),hg,u,(by omega),(by omega),(g7.up.cast (by rw [zap_snoc (by omega) c6,←(take_succ_getD (numG xs) t htn)])),g7.lt⟩)
  refine Zan (yb (dF c6) yi_lss) [5,6,7,21,22,23,9,29] ?_
  refine cg_cf rfl ?_
  refine cg_skip ?_
  refine Qi ?_
  refine Nx [5,6,7,21,22,23] ?_
  refine Qe ?_
  refine Za (yv (congrArg nv (show ((t:Nat):Int)+1=((t+1:Nat):Int) by omega)) (yi_add rfl rfl rfl (by omega) (by omega))) ?_
  refine ZM ?_
  refine Qk ?_
  exact fun a ha=>(show t<((numG xs).length+1)∧_ from ⟨(by omega),ha.keep (fk rfl (fk rfl (fk rfl (fk rfl (fk rfl (fk rfl fn)))))),hg,u,(by omega),(by omega),(go.up.cast (by rw [zap_out (l:=(numG xs).take t) c6,←(take_succ_getD (numG xs) t htn)])),go.lt⟩)
 refine Zan (yb (dF c5) yi_lss) [5,6,7,21,22,23,24] ?_
 refine Qd ?_
 refine cg_cf rfl ?_
 refine cg_exit ?_
 refine Qh ?_
 refine Qh ?_
 refine Ql ?_
 refine Nx [5,7] ?_
 refine Qd ?_
 refine ZrM ?_
 refine Za (yv (congrArg nv (by rw [zapL_len])) (y_lenM (el:=38) go.row.len (by kernel_rfl) rfl rfl)) ?_
 refine ZM ?_
 refine Zn [5,7,36,37,38] ?_
 refine Qj ?_
 refine Qr (fun k a v=>Holds 55 [(5,r2.v),(7,s4.v),(36,s4.v),(37,nv (Ls.length:Int)),(38,nv ((k:Nat):Int))] a∧SlN v bc r2 (numG xs)∧Below W.heap.size W v∧C≤v.heap.size∧k≤Ls.length∧OwnNa v ga4 v.heap.size s4 (cutL (numG xs) k (zapL (numG xs) Ls))∧ga4<v.heap.size) (Ls.length+1) (fun a ha=>⟨ha.keep (fk rfl (fk rfl (fk rfl (fk rfl (fk rfl fn))))),hg,u,(by omega),(Nat.zero_le _),(go.up.cast (by rw [List.take_of_length_le (by omega)];exact (cut_none _ _).symm)),go.lt⟩) ?_
 rintro k a v ht ⟨ha,hg,u,cC,tle,go,gC⟩
 refine cg_at ha ?_
 clear ha a
 have zv:=u.size
 have le_g:=hg.len;have ca_g:=hg.cap
 have zl:=zapL_len (numG xs) Ls
 have cl:=cutL_len (numG xs) k (zapL (numG xs) Ls)
 have qg:=go.len
 refine Zr ?_
 by_cases c8:((k:Nat):Int)<(Ls.length:Int)
 ·refine Zan (yb (dT c8) yi_lss) [5,7,36,37,38,39] ?_
  refine Qd ?_
  refine cg_ct rfl ?_
  refine Zki [5,7,36,37,38] ?_
  refine Qd ?_
  refine Qj ?_
  refine ZrM ?_
  refine Za (y_ixR (s:=s4) (el:=38) (k:=8) (i:=k) (iI:=((k:Nat):Int)) go.1 (by kernel_rfl) (by kernel_rfl) (by omega) (by have q1:=go.len;first | omega | (simp only [List.length_append,List.length_cons,List.length_nil,List.length_take,List.length_drop,List.length_set,List.length_replicate,clr_len] at q1;omega)) rfl rfl rfl) ?_
  obtain ⟨el9,eh9,ef9,ec9⟩:=go.at (i:=k) (by omega)
  refine Za (y_loadC (cs:=el9.cs (atN (cutL (numG xs) k (zapL (numG xs) Ls)) k)) ec9) ?_
  refine lg_allocw (cs:=NdV.zero.cs Nd.zero) Wn rfl (by kernel_rfl) rfl (by decide) fun b10 w10 n10=>?_
  have r10:=n10.row
  have k10:=n10.blk
  have z10:=n10.size
  have lt10:b10<w10.heap.size:=by omega
  refine ZA ?_
  have o11:=r10
  refine lg_stw Wn r10 rfl rfl rfl (by kernel_rfl) (by kernel_rfl) rfl rfl fun w11 s11=>?_
  have r10:=s11.row
  have z11:=s11.size
  refine Zn [5,7,36,37,38,11,10] ?_
  have hun:=drop_unm hti (numG xs) (k:=k) (i:=k) (by omega)
  refine Qe ?_
  refine ZM ?_
  refine ZM ?_
  refine Za (y_fld (off:=5)) ?_
  refine Za (y_fld (off:=2)) ?_
  refine Za (Qo (v:=el9.inner.unm.v) r10 rfl (by kernel_rfl) rfl rfl) ?_
  refine ZM ?_
  have eh9:=(eh9.below (n10.below.mono (by omega))).below (s11.below _ (by omega))
  have hg:=(hg.below (n10.below.mono (by omega))).below (s11.below _ (by omega))
  refine Zc (cutPF_any (eh9.inner.unm.more (B':=w11.heap.size) (by omega)) (hg.more (B':=w11.heap.size) (by omega)) (Nat.le_refl _) (Nat.le_refl _) (by omega) (by omega)) rfl rfl ?_
  rintro _ w12 ⟨r12,rfl,m12,f12,hw12⟩
  have zw12:=hw12.size
  have go:=((go.below n10.below).set1 s11 (by omega) (by omega)).below hw12
  refine Za (y_ixR (s:=s4) (el:=38) (k:=8) (i:=k) (iI:=((k:Nat):Int)) go.1 (by kernel_rfl) (by kernel_rfl) (by omega) (by have q1:=go.len;first | omega | (simp only [List.length_append,List.length_cons,List.length_nil,List.length_take,List.length_drop,List.length_set,List.length_replicate,clr_len] at q1;omega)) rfl rfl rfl) ?_
  refine Za (y_fld (off:=5)) ?_
  refine Za (y_fld (off:=2)) ?_
  refine lg_stU (i:=k) (r:=r12) go (m12.more (B':=w12.heap.size) (by omega)) (OffS.fr f12 (by omega)) (by omega) Wn rfl rfl rfl rfl fun w13 new13 st13 g13=>?_
  have z13:=st13.size
  refine Qk ?_
  refine Qi ?_
  refine Nx [5,7,36,37,38] ?_
  refine Qe ?_
  refine Za (yv (congrArg nv (show ((k:Nat):Int)+1=((k+1:Nat):Int) by omega)) (yi_add rfl rfl rfl (by omega) (by omega))) ?_
  refine ZM ?_
  refine Qk ?_
  have hg:=(hg.below (hw12.mono (by omega))).below (st13.below _ (by omega))
  have u:=Un u n10.below
  have u:=u.trans (s11.below _ (by omega))
  have u:=Un u hw12
  have u:=u.trans (st13.below _ (by omega))
  exact fun a ha=>(show k<(Ls.length+1)∧_ from ⟨(by omega),ha.keep (fk rfl (fk rfl (fk rfl (fk rfl (fk rfl fn))))),hg,u,(by omega),(by omega),(g13.up.cast (cut_snoc (l:=(numG xs)) (t:=zapL (numG xs) Ls) (by omega))),g13.lt⟩)
 refine Zan (yb (dF c8) yi_lss) [5,7,36,37,38,39] ?_
 refine Qd ?_
 refine cg_cf rfl ?_
 refine cg_exit ?_
 refine Qh ?_
 refine Qh ?_
 refine Ql ?_
 refine Nx [7] ?_
 refine ZrM ?_
 refine ZAnr [4] ?_
 obtain rfl:k=Ls.length:=by omega
 exact Qa rfl rfl ⟨_,rfl,_,rfl,go.row.cast (by have e:=cut_zap (numG xs) Ls;rw [e,drop_num hti,hta]),u⟩
theorem drop_any {Ls:List Nd} {W:World} {B:Nat} {s r:SlV} {xs:List Int} (h:RwNd W B s Ls) (hn:SlN W B r xs) (hB:B≤W.heap.size) (hl:xs.length≤900000):Calls Tryz.prog 16 #[s.v,r.v] W fun e W'=>∃ v,e=.returned v∧∃ r:SlV,v=r.v∧RwNd W' W'.heap.size r (dropL xs (trAs Ls))∧Below W.heap.size W W':=by
 by_cases hti:trIs Ls
 ·by_cases hpos:0<Ls.length
  ·exact dropO_any h hn hB hl hti hpos
  obtain rfl:Ls=[]:=List.eq_nil_of_length_eq_zero (by omega)
  exact dropE_any h hn hB hl hti
 exact dropN_any h hn hB hl hti
/- HsDropR:
  A tree without some leaves: the document.
-/
set_option maxRecDepth 20000
end Go.Proofs.YtognnnjdoemgfaaGreatDoor
