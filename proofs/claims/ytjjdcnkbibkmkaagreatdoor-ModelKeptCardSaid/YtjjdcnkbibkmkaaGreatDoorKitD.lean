/-
  KitD: NuCat, NuLib, PnJoin, PnFr, TrClr, HsDrop, HsDropR.
-/
import Derived.Test.YtjjdcnkbibkmkaaGreatDoorShelf
import Derived.Lib.OwnBridge
import Derived.Lib.RowBridge
import Derived.Sort.OwnSortedInts
import Derived.Test.YtjjdcnkbibkmkaaGreatDoorKitH
namespace Go.Proofs.YtjjdcnkbibkmkaaGreatDoor
open Go.Proofs.Tryz
open Go.ChangeShapes Go.WideShapes Go.ChangeAt Go.RowKit
set_option linter.unusedVariables false
variable {B k:Nat} {Ls a:List Nd} {W w':World} {r s:SlV} {xs ys:List Int}

/- NuCat:
  Contracts of slices.Grow (of nil) and slices.Concat (of two slices of whole numbers), which the program takes from Go's library.
-/
def OwnNu (w:World) (base:Nat) (ys:List Int) (e:Ending) (w':World):Prop :=
 ∃ v,e=.returned v/\w'.ownsRow base 3 1 v ys.length (ys.map (Value.int .i64))/\Below base w w'/\base<=w'.heap.size
def JoinedNu (w:World) (base:Nat) (v:Value) (xs ys:List Int) (v':Value) (w':World):Prop :=
 w'.ownsRow base 3 1 v' (xs.length+ys.length) ((xs++ys).map (Value.int .i64))/\w.grownBy w' v.ownBlock
theorem wpList_append_nums (w:World) {ops:Array Oper} {rest:List Oper} {o:Oper} {a:Act} {Q:Exit->Act->World->Prop} (hgd:o.guard=none) (s x:Operand)
  (ho:o.op=.call { callee:=.builtin .append,args:=#[s,x],argTypes:=#[36,36] }) (hty:o.type=36) (base:Nat) (v:Value) (xs ys:List Int) (A:Option Addr) (m c B:Nat)
  (hs:a.eval s=v) (hx:a.eval x=.slice A m c) (hown:w.ownsRow base 3 1 v xs.length (xs.map (Value.int .i64))) (hO:Nums w B A m ys) (hb:xs.length+m<=1000000000000) (hbase:base<=w.heap.size)
  (h:∀ v' w',JoinedNu w base v xs ys v' w'->wpList prog ops Q rest (a.put o.dst v') w'):wpList prog ops Q (o::rest) a w:=by
 refine wpList_plain hgd fun K hK=>?_;obtain ⟨v',w',hrun,h1,h2⟩:=append_nums w base v xs ys A m c B hown hO hb hbase;unfold Oper.wp;simp [execOp,ho,hty,resolve,invoke,builtin,hs,hx,hrun,Result.andThen];exact hK _ _ (h v' w' ⟨by rw [<-List.length_append];exact h1,h2⟩)
theorem joinedNums_below {w0 w:World} {base:Nat} {v v':Value} {n:Nat} {l:List Value} (hown:w.ownsRow base 3 1 v n l) (h:JoinedNu w base v xs ys v' w') (hb:Below base w0 w) (hB:base<=w.heap.size):Below base w0 w'/\base<=w'.heap.size :=
 ⟨hb.grown h.2 hB (fun k hk=>(hown.lt k hk).1),Nat.le_trans hB h.2.size⟩
set_option maxRecDepth 20000 in
theorem growN_nil (n:Nat) (m:Int) (hm:m=n) (w:World) (hn:n<=1000000000000) :
  Calls prog 295 #[.slice none 0 0,.int .i64 m] w (OwnNu w w.heap.size []):=by
 subst hm;obtain ⟨i0,hi0,hz0,hz1,hz2⟩:=info_parts infoInt;by_cases h0:n=0
 ·subst h0
  go_enter func295,ntmps295
  go_wp2
  go_ret
  exact ⟨_,rfl,⟨rfl,.inl ⟨rfl,rfl⟩⟩,Below.refl _ _,Nat.le_refl _⟩
 have hr:=Lib.run_append_nil_zeros (P:=prog) w 36 3 36 3 i0 _ .i64 .i64 Tryz.underlying36 Tryz.underlying3 hi0 hz0 n (by omega) (by omega) (by omega) (by rw [hz2];omega);have hG:=grownCap_ge w n 0 3;have hG2:=grownCap_le_maxLen w n 0 3 (by unfold maxLen;omega);generalize grownCap w n 0 3=G at *;have HR:=Lib.hid hr;have hpos:0<n:=by omega
 have hG3:G<=9223372036854775807:=hG2;clear hr hG2
 go_enter func295,ntmps295
 go_wp2_with (at_builtin;refine Lib.wpList_append_run _ rfl _ _ _ _ rfl _ _ rfl rfl _ _ HR.out ?_)
 go_ret
 refine ⟨_,rfl,⟨rfl,.inr ⟨w.heap.size,G,_,rfl,Nat.le_refl _,heap_alloc_new w.drew _,Nat.zero_le _,hG3,?_,rfl⟩⟩,((Below.refl _ _).drew).alloc Lr _,by simp⟩;rw [Array.size_append,size_zeroCells,size_zeroCells];simp;omega

def CatSumN (n1 n2:Nat) (s i:Value):Prop :=
 (i=.int .i64 0/\s=.int .i64 0)\/(i=.int .i64 1/\s=.int .i64 n1)\/(i=.int .i64 2/\s=.int .i64 ((n1:Int)+n2))
def CatRowN (w:World) (x1 x2:List Int) (v i:Value) (w':World):Prop :=
  Bw w w'/\w.heap.size<=w'.heap.size /\
  ((i=.int .i64 0/\w'.ownsRow w.heap.size 3 1 v ([]:List Int).length (([]:List Int).map (Value.int .i64))) \/
   (i=.int .i64 1/\w'.ownsRow w.heap.size 3 1 v x1.length (x1.map (Value.int .i64))) \/
   (i=.int .i64 2/\w'.ownsRow w.heap.size 3 1 v (x1++x2).length ((x1++x2).map (Value.int .i64))))
theorem concatN_two (b n1 n2 c1 c2 B:Nat) (A1 A2:Option Addr) (x1 x2:List Int) (w:World)
    (h1:Nums w B A1 n1 x1) (h2:Nums w B A2 n2 x2) (hB:B<=w.heap.size) (hb:b<w.heap.size)
    (e1:w.cell? ⟨b,0,none⟩=some (.slice A1 n1 c1)) (e2:w.cell? ⟨b,1,none⟩=some (.slice A2 n2 c2))
    (hn:n1+n2<=1000000000000) :
    Calls prog 259 #[.slice (some ⟨b,0,none⟩) 2 2] w (OwnNu w w.heap.size (x1++x2)):=by
  have H1:=Lib.hid h1;have H2:=Lib.hid h2;have L1:=Lib.hid h1.1;have L2:=Lib.hid h2.1;have E1:=Lib.hid e1;have E2:=Lib.hid e2;clear h1 h2 e1 e2
  go_enter func259,ntmps259
  go_wp2
  go_loop [3,11] (fun s i=>CatSumN n1 n2 s i) (fun _ i=>2-(intOf i).toNat)
  case atStart=>exact .inl ⟨rfl,rfl⟩
  case round =>
    rcases hrel with ⟨rfl,rfl⟩ | ⟨rfl,rfl⟩ | ⟨rfl,rfl⟩
    · have e:=E1.out
      go_wp2
      go_round
      case rel=>exact .inr (.inl ⟨rfl,rfl⟩)
      case measure=>simp [intOf]
    · have e:=E2.out
      go_wp2
      go_round
      case rel=>exact .inr (.inr ⟨rfl,rfl⟩)
      case measure=>simp [intOf]
    · go_wp2_with fail
      refine (growN_nil (n1+n2) _ (by omega) _ hn).mono ?_;rintro e w1 ⟨v1,rfl,how1,hb1,hs1⟩;have HOW1:=Lib.hid how1;clear how1
      go_wp2_with fail
      go_loopw [6,27] (fun v i w'=>CatRowN w x1 x2 v i w') (fun _ i _=>2-(intOf i).toNat)
      case atStart=>exact ⟨hb1,hs1,.inl ⟨rfl,HOW1.out⟩⟩
      case round =>
        rcases hrel with ⟨hb2,hs2,⟨rfl,how2⟩ | ⟨rfl,how2⟩ | ⟨rfl,how2⟩⟩
        · have HOW2:=Lib.hid how2
          have e:=(hb2.cell (p:=⟨b,0,none⟩) hb).trans E1.out;clear how2
          go_wp2_with (at_builtin
                       refine wpList_append_nums _ rfl (.tmp 31) (.tmp 32) rfl rfl w.heap.size _ [] x1 A1 n1 c1 B rfl rfl ?hown ?hO ?hb ?hbase ?_
                       case hown=>exact HOW2.out
                       case hO=>exact H1.out.below (hb2.mono hB)
                       case hb=>simp;omega
                       case hbase=>exact hs2
                       intro v4 w4 hj4;have hb4:=joinedNums_below HOW2.out hj4 hb2 hs2;have H4:=Lib.hid hj4.1;clear hj4)
          go_roundw
          case rel =>
            have h4:=H4.out;rw [<-List.length_append] at h4;exact ⟨hb4.1,hb4.2,.inr (.inl ⟨rfl,h4⟩)⟩
          case measure=>simp [intOf]
        · have HOW2:=Lib.hid how2
          have e:=(hb2.cell (p:=⟨b,1,none⟩) hb).trans E2.out;clear how2
          go_wp2_with (at_builtin
                       refine wpList_append_nums _ rfl (.tmp 31) (.tmp 32) rfl rfl w.heap.size _ x1 x2 A2 n2 c2 B rfl rfl ?hown ?hO ?hb ?hbase ?_
                       case hown=>exact HOW2.out
                       case hO=>exact H2.out.below (hb2.mono hB)
                       case hb=>simp [L1.out];omega
                       case hbase=>exact hs2
                       intro v4 w4 hj4;have hb4:=joinedNums_below HOW2.out hj4 hb2 hs2;have H4:=Lib.hid hj4.1;clear hj4)
          go_roundw
          case rel =>
            have h4:=H4.out;rw [<-List.length_append] at h4;exact ⟨hb4.1,hb4.2,.inr (.inr ⟨rfl,h4⟩)⟩
          case measure=>simp [intOf]
        · have HOW2:=Lib.hid how2
          clear how2
          go_wp2
          go_ret
          exact ⟨_,rfl,HOW2.out,hb2,hs2⟩
/- NuLib:
  Go's library on slices of whole numbers: joined, sorted, without neighbours that are the same, looked up.
-/
section
variable {w:World} {base B B2:Nat} {v:Value} {s s2:SlV} {xs ys:List Int}
theorem sort_own (h:w.ownsRow base 3 1 v ys.length (ys.map (Value.int .i64))) (hn:ys.length<=1000000000000) (hbase:base<=w.heap.size) :
  Calls prog 260 #[v] w fun e w'=>∃ v',e=.returned v'/\v'=.tuple #[]/\w'.ownsRow base 3 1 v (ys.mergeSort fun x y=>decide (x<=y)).length ((ys.mergeSort fun x y=>decide (x<=y)).map (Value.int .i64))/\Below base w w':=by
 have hl:(ys.mergeSort fun x y=>decide (x<=y)).length=ys.length:=List.length_mergeSort ys;rcases h.2 with ⟨rfl,h0⟩ | ⟨g,cap,cur,rfl,hg,hb,h1,h2,h3,h4⟩
 ·have e:ys=[]:=List.eq_nil_of_length_eq_zero h0;subst e;refine (Tryz.slices_Sort_int_none none 0 w).mono ?_;rintro e w' ⟨rfl,rfl⟩;exact ⟨_,rfl,rfl,by simpa using h,Below.refl _ _⟩
 have hH:=holds_of_blockI hb (by simpa using h4);refine (Tryz.slices_Sort_int g 0 cap ys w hH (Array.getElem?_eq_some_iff.1 hb).1 (by omega)).mono ?_;rintro e w' ⟨rfl,n,os,rfl⟩;refine ⟨_,rfl,rfl,?_,(Below.refl _ _).grown (grownBy_sortedI _) hbase (fun k hk=>by cases hk;exact hg)⟩;rw [hl];exact ownsRow_sortedI hl hg hb h1 h2 h3
theorem compact_own (h:w.ownsRow base 3 1 v ys.length (ys.map (Value.int .i64))) (hn:ys.length<=1000000000000) :
  Calls prog 261 #[v] w fun e w'=>∃ v',e=.returned v'/\w'.ownsRow base 3 1 v' (Lib.compact ys).length ((Lib.compact ys).map (Value.int .i64))/\Below base w w':=by
 rcases h.2 with ⟨rfl,h0⟩ | ⟨g,cap,cur,rfl,hg,hb,h1,h2,h3,h4⟩
 ·have e:ys=[]:=List.eq_nil_of_length_eq_zero h0;subst e;refine (Tryz.slices_Compact_int_empty none 0 w).mono ?_;rintro e w' ⟨rfl,rfl⟩;exact ⟨_,rfl,by simpa [Lib.compact,Lib.compactUpTo] using h,Below.refl _ _⟩
 have hH:=holds_of_blockI hb (by simpa using h4);have hle:=Lib.compact_length_le ys;refine (Tryz.slices_Compact_int g 0 cap ys w hH (by omega) h1).mono ?_;rintro e w' ⟨rfl,q,rfl⟩;have hc:=Lib.ownsRow_putRow (q:=q) (k:=(Lib.compact ys).length) (ys:=Lib.compact ys++List.replicate (ys.length-(Lib.compact ys).length) 0) h (by simp;omega) hle;rw [List.take_left] at hc;exact ⟨_,rfl,hc,Lib.below_putRow (Below.refl _ _) hg⟩
theorem search_S [Lo] {x:Int} (h:SlN w B s xs) (hs:Rising xs) (hn:xs.length<=1000000000000) :
  Calls prog 346 #[s.v,nv x] w fun e w'=>∃ v,e=.returned v/\∃ (k:Int) (b:Bool),v=.tuple #[nv k,.bool b]/\b=decide (x∈xs)/\Bw w w':=by
 obtain ⟨A,m,c⟩:=s;have hl:xs.length=m:=h.len;by_cases h0:m=0
 ·subst h0;have e:xs=[]:=List.eq_nil_of_length_eq_zero hl;subst e;refine (Tryz.slices_BinarySearch_int_empty A c x w).mono ?_;rintro e w' ⟨rfl,rfl⟩;exact ⟨_,rfl,0,false,rfl,by simp,Below.refl _ _⟩
 obtain ⟨b,off,e,hB,hc⟩:=h.2.2.2 (by show 0<m;omega);dsimp only at e;subst e;subst hl;refine (Tryz.slices_BinarySearch_int b off xs.length c xs x w Lr (by omega) (fun j hj=>hc j _ (by rw [List.getD_eq_getElem?_getD,List.getElem?_eq_getElem hj];rfl)) (by rw [List.take_length];exact rising_le hs)).mono ?_;rintro e w' ⟨rfl,q,rfl⟩;refine ⟨_,rfl,_,_,rfl,?_,below_of_drewN _ _⟩;rw [List.take_length,<-List.contains_eq_mem]
theorem concatN_S [Lo] {b:Nat} {t:TypeId} (r:RowAt w b t #[s.v,s2.v]) (h:SlN w B s xs) (h2:SlN w B2 s2 ys) (hB:B<=w.heap.size) (hB2:B2<=w.heap.size) (hn:xs.length+ys.length<=1000000000000) :
  Calls prog 259 #[.slice (some ⟨b,0,none⟩) 2 2] w fun e w'=>∃ v,e=.returned v/\w'.ownsRow w.heap.size 3 1 v (xs++ys).length ((xs++ys).map (Value.int .i64))/\Bw w w' :=
 (concatN_two b s.m s2.m s.c s2.c w.heap.size s.A s2.A xs ys w (h.more hB).2.2 (h2.more hB2).2.2 Lr r.lt (by rw [cell_of_row w b 0 _ t _ r];rfl) (by rw [cell_of_row w b 1 _ t _ r];rfl) (by rw [<-h.len,<-h2.len];exact hn)).mono fun e w' ⟨v,e1,h1,h2,_⟩=>⟨v,e1,h1,h2⟩
end
/- PnJoin:
  Joined and cut: the program; cut: the document.
-/
def PutN [Lo] (w:World) (ys:List Int) (v:Value) (w':World):Prop:=∃ r:SlV,v=r.v/\SlN w' w'.heap.size r ys/\Bw w w'
theorem own_fr {w:World} {a base n:Nat} {v:Value} {xs:List Value} (h:w.ownsRow base 3 1 v k xs) (e:v=r.v) (hb:a<=base):Fr a r:=fun p q=>by
 obtain ⟨A,m,c⟩:=r;obtain rfl:A=some p:=q;have:=(h.lt p.block (by rw [e];rfl)).1;omega
def PutNF [Lo] (w:World) (ys:List Int) (v:Value) (w':World):Prop:=∃ r:SlV,v=r.v/\SlN w' w'.heap.size r ys/\Fr w.heap.size r/\Bw w w'
theorem PutNF.n [Lo] {w:World} {e:Ending} (h:∃ v,e=.returned v/\PutNF w ys v w'):∃ v,e=.returned v/\PutN w ys v w':=by
 obtain ⟨v,e,r,h1,h2,_,h3⟩:=h;exact ⟨v,e,r,h1,h2,h3⟩
section
variable {w W:World} {B B2:Nat} {s s2:SlV} {xs ys:List Int}
theorem sortedPF_any [Lo] (h:SlN W B s xs) (h2:SlN W B2 s2 ys) (hB:B<=W.heap.size) (hB2:B2<=W.heap.size) (hn:xs.length+ys.length<=1000000):Calls prog 221 #[s.v,s2.v] W fun e w'=>∃ v,e=.returned v/\PutNF W (riseU (xs++ys)) v w':=by
 refine Ze func221 ntmps221 ?_;have u:=Br W;refine ZrAn [0,1,4] ?_;refine XR 2 ?_;refine lg_bslice (el:=36) (z:=.slice none 0 0) (cs:=#[s.v,s2.v]) (by kernel_rfl) (by kernel_rfl) (by decide) (by decide) rfl rfl (by kernel_rfl) rfl rfl (by decide) fun b1 w1 n1=>?_;have ⟨r1,k1,z1,lt1⟩:=n1.f;have h:=h.below (Bm n1.below);have h2:=h2.below (Bm n1.below);refine Zc (concatN_S r1 h h2 (by omega) (by omega) (by omega)) rfl rfl ?_;rintro v2 w2 ⟨g2,hw2⟩;have zw2:=hw2.size;obtain ⟨C3,hC3⟩:∃ q,q=w1.heap.size:=⟨_,rfl⟩;rw [<-hC3] at g2;refine ZAn [4,5] ?_;refine ZrM ?_;refine Zc (sort_own g2 (by simp only [List.length_append];omega) (by omega)) rfl rfl ?_;rintro _ w4 ⟨rfl,g4,hw4⟩;have zw4:=hw4.size;refine Zn [4,5] ?_;refine ZrM ?_;refine Zc (compact_own g4 (by rw [List.length_mergeSort];first | omega | (simp only [List.length_append];omega))) rfl rfl ?_;rintro v5 w5 ⟨g5,hw5⟩;have zw5:=hw5.size;refine ZAnr [4] ?_;have gq:=g5;rw [compact_sorted] at gq;obtain ⟨r,er,hr⟩:=own_SlN gq;exact Qa rfl rfl ⟨_,rfl,r,er,hr,own_fr (n:=0) gq er (by omega),((Un (Un u n1.below) hw2).trans (Bm hw4)).trans (Bm hw5)⟩
theorem sortedP_any [Lo] (h:SlN W B s xs) (h2:SlN W B2 s2 ys) (hB:B<=W.heap.size) (hB2:B2<=W.heap.size) (hn:xs.length+ys.length<=1000000):Calls prog 221 #[s.v,s2.v] W fun e w'=>∃ v,e=.returned v/\PutN W (riseU (xs++ys)) v w':=(sortedPF_any h h2 hB hB2 hn).mono fun e w' h=>PutNF.n h
theorem thinnedPF_any [Lo] (h:SlN W B s xs) (h2:SlN W B2 s2 ys) (hrise:Rising ys) (hB:B<=W.heap.size) (hB2:B2<=W.heap.size) (hn:xs.length<=1000000) (hn2:ys.length<=1000000):Calls prog 333 #[s.v,s2.v] W fun e w'=>∃ v,e=.returned v/\PutNF W (cutK xs ys) v w':=by
 refine Ze func333 ntmps333 ?_;have u:=Br W;have le_h:=h.len;have ca_h:=h.cap;have le_h2:=h2.len;have ca_h2:=h2.cap;refine ZrAn [0,1,4] ?_;refine ZrAn [0,1,4,5] ?_;refine Qd<|ZrM ?_
 refine Za (y_lenM (el:=3) h.len) ?_;refine Xn 1 [1,4,5,10,11,12] ?_;refine Qj ?_;obtain ⟨C,hC⟩:∃ q,q=W.heap.size:=⟨_,rfl⟩;refine Qr (fun t a v=>∃ (r:SlV),Holds 30 [(1,s2.v),(5,r.v),(10,s.v),(11,nv (xs.length:Int)),(12,nv ((t:Nat):Int))] a/\SlN v B s xs/\SlN v B2 s2 ys/\Bw W v/\t<=xs.length/\C<=v.heap.size/\v.ownsRow C 3 1 r.v (cutK (xs.take t) ys).length ((cutK (xs.take t) ys).map (Value.int .i64))) xs.length (fun a ha=>⟨nilS,ha.keep kz,h,h2,u,(Nat.zero_le _),(by omega),(own_nilN _ _)⟩) ?_;rintro t a v ht ⟨r,ha,h,h2,u,tle,cC,own⟩;refine cg_at ha ?_;clear ha a;have zv:=u.size;have lc:=cutK_length (xs.take t) ys;rw [List.length_take] at lc;refine Zr ?_;refine Zi yi_lss (fun c1=>?_) fun c1=>?_
 ·refine Zn [1,5,10,11,12,13] ?_;refine Qd<|cg_ct rfl<|Zki [1,5,10,11,12] ?_
  refine Qd<|Qj<|Zr<|Za (y_ixT (i:=t) (iI:=((t:Nat):Int)) h (by omega) (by omega) rfl rfl rfl) ?_
  refine Za (y_ldT (i:=t) h (by omega) rfl rfl) ?_;refine ZAn [1,5,10,11,12,7] ?_;refine XR 2 ?_;by_cases c2:(xs.getD t 0)∈ys
  ·refine Zc (search_S h2 hrise (by omega)) rfl rfl ?_;rintro _ w3 ⟨k3,bb3,rfl,e3,hw3⟩;have zw3:=hw3.size;obtain rfl:bb3=true:=e3.trans (decide_eq_true c2);refine Xn 5 [1,5,10,11,12,7,9] ?_;refine XRn 2 [1,5,10,11,12,7,23] ?_;refine cg_cf rfl<|cg_skip<|Qi<|Nx [1,5,10,11,12] ?_
   refine Qe<|Za Yj ?_
   refine ZM ?_;refine Qk ?_;have own:=own_below own hw3;have h:=h.below (Bm hw3);have h2:=h2.below (Bm hw3);have u:=Un u hw3;exact fun a ha=>(show t<xs.length/\_ from ⟨(by omega),r,ha.keep kz,h,h2,u,(by omega),(by omega),(by rw [cutK_take (by omega),if_pos c2,List.append_nil];exact own)⟩)
  refine Zc (search_S h2 hrise (by omega)) rfl rfl ?_;rintro _ w4 ⟨k4,bb4,rfl,e4,hw4⟩;have zw4:=hw4.size;obtain rfl:bb4=false:=e4.trans (decide_eq_false c2);refine Xn 5 [1,5,10,11,12,7,9] ?_;refine XRn 2 [1,5,10,11,12,7,23] ?_;refine cg_ct rfl<|Qe<|ZM ?_
  refine ZM ?_;refine lg_bslice (el:=3) (z:=nv 0) (cs:=#[nv (xs.getD t 0)]) huIs (by kernel_rfl) (by decide) (by decide) rfl rfl (by kernel_rfl) rfl rfl (by decide) fun b5 w5 n5=>?_;have ⟨r5,k5,z5,_⟩:=n5.f;have m5:SlN w5 (b5+1) ⟨some ⟨b5,0,none⟩,1,1⟩ [(xs.getD t 0)]:=new_SlN (xs:=[(xs.getD t 0)]) r5 rfl (of_decide_eq_true (by kernel_rfl));have og5:w5.ownsRow b5 3 1 (.slice (some ⟨b5,0,none⟩) 1 1) ([(xs.getD t 0)]:List Int).length (([(xs.getD t 0)]:List Int).map (Value.int .i64)):=new_ownN (xs:=[(xs.getD t 0)]) n5 rfl (of_decide_eq_true (by kernel_rfl));have own:=own_below own hw4;have own:=own_below own n5.below;refine lg_appT own m5 (by simp only [List.length_cons,List.length_nil];omega) (by omega) Wn rfl rfl rfl rfl rfl (by decide) fun r6 w6 m6 g6 l6 z6=>?_;refine ZA ?_;refine Qk<|Qi<|Nx [1,10,11,12,5] ?_
  refine Qe<|Za Yj ?_
  refine ZM ?_;refine Qk ?_;have h:=((h.below (Bm hw4)).below (Bm n5.below)).below (Bm l6);have h2:=((h2.below (Bm hw4)).below (Bm n5.below)).below (Bm l6);have u:=(Un (Un u hw4) n5.below).trans (Bm l6);exact fun a ha=>(show t<xs.length/\_ from ⟨(by omega),r6,ha.keep kz,h,h2,u,(by omega),(by omega),(by rw [cutK_take (by omega),if_neg c2];exact g6)⟩)
 refine Zn [1,5,10,11,12,13] ?_;refine Qd<|cg_cf rfl<|cg_exit<|Qh<|Qh<|Ql<|Nx [5] ?_
 refine XRu 2 [4] ?_;have gq:=own;rw [List.take_of_length_le (by omega)] at gq;obtain ⟨r,er,hr⟩:=own_SlN gq;exact Qa rfl rfl ⟨_,rfl,r,er,hr,own_fr (n:=0) gq er (by omega),u⟩
theorem joinPF_any [Lo] (i:Int) (h:SlN W B s xs) (hB:B<=W.heap.size) (hn:xs.length<=900000):Calls prog 183 #[s.v,nv i] W fun e w'=>∃ v,e=.returned v/\PutNF W (joinK xs i) v w':=by
 refine Ze func183 ntmps183 ?_;have u:=Br W;refine ZrAn [0,1,4] ?_;refine XR 2 ?_;refine lg_bsliceW (el:=3) (z:=nv 0) (cs:=#[nv i]) Wn huIs (by kernel_rfl) (by decide) (by decide) rfl rfl (by kernel_rfl) rfl (by decide) fun b1 w1 n1=>?_;have ⟨r1,k1,z1,_⟩:=n1.f;have m1:SlN w1 (b1+1) ⟨some ⟨b1,0,none⟩,1,1⟩ [i]:=new_SlN (xs:=[i]) r1 rfl (of_decide_eq_true (by kernel_rfl));have og1:w1.ownsRow b1 3 1 (.slice (some ⟨b1,0,none⟩) 1 1) ([i]:List Int).length (([i]:List Int).map (Value.int .i64)):=new_ownN (xs:=[i]) n1 rfl (of_decide_eq_true (by kernel_rfl));have h:=h.below (Bm n1.below);refine Zc (sortedPF_any h m1 (by omega) (by omega) (by simp only [List.length_cons,List.length_nil];omega)) rfl rfl ?_;rintro _ w2 ⟨r2,rfl,m2,f2,hw2⟩;have zw2:=hw2.size;have lr2:=riseU_length (xs++([i]:List Int));refine ZAnr [4] ?_;exact Qa rfl rfl ⟨_,rfl,r2,rfl,m2,Fr.le f2 (by omega),Un (Un u n1.below) hw2⟩
theorem cutPF_any [Lo] (h:SlN W B s xs) (h2:SlN W B2 s2 ys) (hB:B<=W.heap.size) (hB2:B2<=W.heap.size) (hn:xs.length<=900000) (hn2:ys.length<=900000):Calls prog 310 #[s.v,s2.v] W fun e w'=>∃ v,e=.returned v/\PutNF W (cutK xs ys) v w':=by
 refine Ze func310 ntmps310 ?_;have u:=Br W;refine ZrAn [0,1,4] ?_;refine XR 2 ?_;refine Zc (sortedP_any h2 (SlN.nil _ _) (by omega) (by omega) (by simp only [List.length_nil];omega)) rfl rfl ?_;rintro _ w1 ⟨r1,rfl,m1,hw1⟩;have zw1:=hw1.size;rw [List.append_nil] at m1;have lr1:=riseU_length ys;have h:=h.below (Bm hw1);refine Zc (thinnedPF_any h m1 (riseU_rising _) (by omega) (by omega) (by omega) (by omega)) rfl rfl ?_;rintro _ w2 ⟨r2,rfl,m2,f2,hw2⟩;have zw2:=hw2.size;refine ZAnr [4] ?_;exact Qa rfl rfl ⟨_,rfl,r2,rfl,m2.cast (cutK_congr fun _=>riseU_mem),Fr.le f2 (by omega),Un (Un u hw1) hw2⟩
theorem cutP_any [Lo] (h:SlN W B s xs) (h2:SlN W B2 s2 ys) (hB:B<=W.heap.size) (hB2:B2<=W.heap.size) (hn:xs.length<=900000) (hn2:ys.length<=900000):Calls prog 310 #[s.v,s2.v] W fun e w'=>∃ v,e=.returned v/\PutN W (cutK xs ys) v w':=(cutPF_any h h2 hB hB2 hn hn2).mono fun e w' h=>PutNF.n h
end
/- PnFr:
  What is cut lies in memory of its own: said with PnJoin since layer 14.
-/

/- TrClr:
  Trees: a leaf and its way up are blank.
-/
def clearE (a:List Nd) (i:Int):Int:=if i<0\/((leavesA (trAs a):Nat):Int)<=i then 3 else 0
def clearL (a:List Nd) (i:Int):List Nd:=if clearE a i=0 then clr (dirI (2*i) ((trAs a).length:Int)) ((trAs a).set (2*i).toNat Nd.zero) else []
theorem clearE_no {i:Int} (h:i<0\/((leavesA (trAs a):Nat):Int)<=i):clearE a i=3:=if_pos h
theorem clearE_ok {i:Int} (h:¬i<0) (h2:¬((leavesA (trAs a):Nat):Int)<=i):clearE a i=0:=if_neg (fun q=>q.elim h h2)
theorem clearL_no {i:Int} (h:clearE a i=3):clearL a i=[]:=if_neg (by rw [h];decide)
theorem clearL_ok {i:Int} (h:clearE a i=0):clearL a i=clr (dirI (2*i) ((trAs a).length:Int)) ((trAs a).set (2*i).toNat Nd.zero):=if_pos h
theorem clear_node {i:Int} (h:clearE a i=0):isN (2*i) ((trAs a).length:Int)/\0<=i/\i<64:=by
 unfold clearE leavesA at h;split at h
 ·exact absurd h (by decide)
 have hl:=trIs_len (trAs_is a);exact ⟨isN_of (trAs_is a) (by omega) (by omega),by omega,by omega⟩
theorem dir_node {x w:Int} (h:isN x w) {i:Nat} (hi:i<(dirI x w).length):isN ((dirI x w).getD i 0) w:=(way_at h hi).1
theorem clr_step {ds:List Int} {t:Nat} (h:t<ds.length):(clr (ds.take t) a).set (ds.getD t 0).toNat Nd.zero=clr (ds.take (t+1)) a:=by
 rw [take_succ_getD ds t h,clr_snoc]
theorem clone_any [Lo] {bc:Nat} (h:RwNd W W.heap.size s Ls) (hb:bc=W.heap.size) (hpos:0<Ls.length) (hle:Ls.length<=1000000):Calls prog 181 #[s.v] W fun e W'=>∃ v,e=.returned v/\∃ r:SlV,v=r.v/\OwnNd W' bc bc r.v Ls/\Bw W W':=by
 refine Ze func181 ntmps181 ?_;have u:=Br W;have q1:=h.len;have q2:=h.cap;obtain ⟨b0,o0,hA,_⟩:=h.2.2.2 (by omega);refine ZrAn [0,2] ?_;refine Qd<|ZrM ?_
 refine Zan (y_nilR hA) [0,2,4] ?_;refine Zcf [0,2] ?_;refine Zr ?_;obtain ⟨bs2,hbs2⟩:∃ q,q=W.heap.size:=⟨_,rfl⟩;refine lg_bs0R Wn rfl rfl (by decide) fun v1 w1 g1 l1=>?_;rw [<-hbs2] at g1;have z1:=l1.size;refine ZM ?_;have h:=h.below (Bm l1);refine lg_appR g1 (h.src.more (B':=bs2) (by omega)) Lr (by simp only [List.length_nil];omega) (by omega) Wn rfl rfl rfl rfl rfl (by decide) fun r3 w3 g3 m3 l3 z3=>?_;rw [List.nil_append] at g3;clear m3;refine ZAnr [2] ?_;have u:=(Un u l1).trans (Bm l3);exact Qa rfl rfl ⟨_,rfl,_,rfl,by rw [hb];first | assumption | (subst bs2;assumption),u⟩
theorem clear_any [Lo] (h:RwNd W B s Ls) (i:Int) (hB:B<=W.heap.size) (rg:Tb W):Calls prog 185 #[s.v,nv i] W fun e W'=>∃ v,e=.returned v/\∃ s':SlV,v=.tuple #[s'.v,nv (clearE Ls i)]/\RwNd W' W'.heap.size s' (clearL Ls i)/\Bw W W':=by
 refine Ze func185 ntmps185 ?_;have u:=Br W;have q0:=trAs_le Ls;have q5:leavesA (trAs Ls)=((trAs Ls).length+1) / 2:=rfl;have q7:=trIs_len (trAs_is Ls);refine XRn 2 [0,1,4,5] ?_;refine ZrM ?_;refine Zc (tree_any h (by omega)) rfl rfl ?_;rintro _ w1 ⟨s1,rfl,m1,f1,hw1⟩;have zw1:=hw1.size;have tl1:=trAs_le Ls;refine ZAn [1,4,5,0] ?_;refine Qd<|ZrM ?_
 refine Zi yi_lss (fun c2=>?_) fun c2=>?_
 ·refine Xt 6 [1,4,5,0,19] ?_;refine XRu 2 [1,0,4,5] ?_;refine Qc ?_;have no:=clearE_no (a:=Ls) (i:=i) (by omega);exact eg_ret_tmp2 rfl rfl rfl ⟨_,rfl,nilS,congrArg (fun q=>Value.tuple #[nilS.v,nv q]) no.symm,(RwNd.nil _ _).cast (clearL_no no).symm,Un u hw1⟩
 refine Xa 3 ?_;refine Zt 14 (Qp (leaves_any s1 (trAs Ls) _ (by have q1:=m1.len;omega) (by omega)) (by kernel_rfl) rfl rfl) ?_;by_cases c3:((leavesA (trAs Ls):Nat):Int)<=i
 ·refine Zt 14 (yb (dT c3) yi_geq) ?_;refine Xt 1 [1,4,5,0,19] ?_;refine XRu 2 [1,0,4,5] ?_;refine Qc ?_;have no:=clearE_no (a:=Ls) (i:=i) (by omega);exact eg_ret_tmp2 rfl rfl rfl ⟨_,rfl,nilS,congrArg (fun q=>Value.tuple #[nilS.v,nv q]) no.symm,(RwNd.nil _ _).cast (clearL_no no).symm,Un u hw1⟩
 have ok:=clearE_ok (by omega) c3;have hN:=(clear_node ok).1;have hN2:=hN.le;refine Zt 14 (yb (dF c3) yi_geq) ?_;refine Xn 1 [1,4,5,0,19] ?_;refine Zcf [1,4,5,0] ?_;refine ZrM ?_;refine Za (yi_mul rfl rfl rfl (by omega) (by omega)) ?_;refine ZAn [4,5,0,6] ?_;refine ZrM ?_;obtain ⟨bc,hbc⟩:∃ q,q=w1.heap.size:=⟨_,rfl⟩;refine Zc (clone_any (m1.mW w1) hbc (by omega) (by omega)) rfl rfl ?_;rintro _ w4 ⟨s4,rfl,g4,hw4⟩;have zw4:=hw4.size;refine ZAn [4,5,0,6,7] ?_;refine ZrM ?_;refine Za (yv (congrArg nv (show 2*i=(((2*i).toNat:Nat):Int) by omega)) (y_move rfl rfl)) ?_;refine Za (y_build (cs:=NdV.zero.cs Nd.zero)) ?_;obtain ⟨gb6,gA6,gl6,gu6⟩:=g4.addr (i:=((2*i).toNat)) (by omega);refine Za (Yx s4 81 8 ((2*i).toNat) gA6 (by have q1:=(g4.rowS (by omega)).len;first | omega | (simp only [List.length_append,List.length_cons,List.length_nil,List.length_take,List.length_drop,List.length_set,List.length_replicate,clr_len] at q1;omega)) rfl rfl rfl) ?_;refine lg_stR (i:=((2*i).toNat)) g4 (IsNd.zero _ _) Lr (by omega) gA6 Wn rfl rfl rfl rfl fun w7 old7 new7 ro7 st7 g7 l7 z7=>?_;refine Zn [4,5,0,6,7] ?_;refine Qd<|ZrM ?_
 refine ZM ?_;have m1:=(m1.below (Bm hw4)).below (Bm l7);refine Za (y_lenM (el:=81) m1.len) ?_;have u:=(Un (Un u hw1) hw4).trans (Bm l7);refine Zd (directF (2*i) ((trAs Ls).length:Int) _ (rg.up u)) ?_;rintro _ w8 ⟨s8,rfl,m8,f8,hw8⟩;have zw8:=hw8.size;have dl8:=dirL (2*i) ((trAs Ls).length:Int);refine Za (y_lenM (el:=3) m8.len) ?_;refine Xn 1 [4,5,7,31,32,33] ?_;refine Qj ?_;obtain ⟨C,hC⟩:∃ q,q=w8.heap.size:=⟨_,rfl⟩;have g7:=g7.keep hw8 (by omega);have u:=Un u hw8;refine Qr (fun t a v=>Holds 43 [(7,s4.v),(31,s8.v),(33,nv ((t:Nat):Int)),(32,nv ((dirI (2*i) ((trAs Ls).length:Int)).length:Int))] a/\SlN v C s8 (dirI (2*i) ((trAs Ls).length:Int))/\OwnNd v bc bc s4.v (clr ((dirI (2*i) ((trAs Ls).length:Int)).take t) ((trAs Ls).set (2*i).toNat Nd.zero))/\bc<=v.heap.size/\w8.heap.size<=v.heap.size/\t<=(dirI (2*i) ((trAs Ls).length:Int)).length/\Bw W v) ((dirI (2*i) ((trAs Ls).length:Int)).length+1) (fun a ha=>⟨ha.keep kz,(m8.more (by omega)),g7,(by omega),Lr,(Nat.zero_le _),u⟩) ?_;rintro t a v ht ⟨ha,hd,ho,hs,hs2,tle,u⟩;refine cg_at ha ?_;clear ha a;have zv:=u.size;have dl:=dirL (2*i) ((trAs Ls).length:Int);refine Zr ?_;by_cases c9:((t:Nat):Int)<((dirI (2*i) ((trAs Ls).length:Int)).length:Int)
 ·have hdn:=(dir_node hN (show t<(dirI (2*i) ((trAs Ls).length:Int)).length by omega)).le;refine Zan (yb (dT c9) yi_lss) [7,31,33,32,34] ?_;refine Qd<|cg_ct rfl<|Zki [7,31,33,32] ?_
  refine Qd<|Qj<|Zr<|Za (y_ixT (i:=t) (iI:=((t:Nat):Int)) hd (by omega) (by omega) rfl rfl rfl) ?_
  refine Za (y_ldT (i:=t) hd (by omega) rfl rfl) ?_;refine ZAn [7,31,33,32,9] ?_;refine Qe<|ZM ?_
  refine Za (yv (congrArg nv (show (dirI (2*i) ((trAs Ls).length:Int)).getD t 0=((((dirI (2*i) ((trAs Ls).length:Int)).getD t 0).toNat:Nat):Int) by omega)) (y_move rfl rfl)) ?_;refine Za (y_build (cs:=NdV.zero.cs Nd.zero)) ?_;refine Za (Yx s4 81 8 (((dirI (2*i) ((trAs Ls).length:Int)).getD t 0).toNat) gA6 (by have q1:=(ho.rowS (by omega)).len;first | omega | (simp only [List.length_set,clr_len] at q1;omega)) rfl rfl rfl) ?_;refine lg_stR (i:=(((dirI (2*i) ((trAs Ls).length:Int)).getD t 0).toNat)) ho (IsNd.zero _ _) Lr (by simp only [List.length_set,clr_len];omega) gA6 Wn rfl rfl rfl rfl fun w10 old10 new10 ro10 st10 g10 l10 z10=>?_;refine Qk<|Qi<|Nx [7,31,33,32] ?_
  refine Qe<|Za Yj ?_
  refine ZM ?_;refine Qk ?_;have hd:=hd.setf f8 (by omega) st10;have hs:=(show bc<=w10.heap.size by omega);have hs2:=(show w8.heap.size<=w10.heap.size by omega);exact fun a ha=>(show t<((dirI (2*i) ((trAs Ls).length:Int)).length+1)/\_ from ⟨(by omega),ha.keep kz,hd,(g10.cast (clr_step (by omega))),hs,hs2,(by omega),u.trans (Bm l10)⟩)
 refine Zan (yb (dF c9) yi_lss) [7,31,33,32,34] ?_;refine Qd<|cg_cf rfl<|cg_exit<|Qh<|Qh<|Ql<|Nx [7] ?_
 refine XRu 3 [4,5] ?_;have et:t=(dirI (2*i) ((trAs Ls).length:Int)).length:=by omega
 exact eg_ret_tmp2 rfl rfl rfl ⟨_,rfl,_,congrArg (fun q=>Value.tuple #[s4.v,nv q]) ok.symm,(ho.rowS (by omega)).cast (by rw [et,List.take_length];exact (clearL_ok ok).symm),u⟩
/- HsDrop:
  A tree without some leaves: the program.
-/
set_option maxRecDepth 20000
def idxI (xs:List Int) (x:Int):Int:=if x∈xs then ((xs.takeWhile fun y=>!decide (x=y)).length:Int) else -1
theorem idxI_at:∀ {xs:List Int} {x:Int} {t:Nat},(∀ j,j<t->¬x=xs.getD j 0)->t<xs.length->x=xs.getD t 0->idxI xs x=(t:Int):=by
 intro xs x t hno ht hx;have he:x∈xs:=by rw [hx];exact getD_in ht
 rw [idxI,if_pos he];refine congrArg Int.ofNat ?_;clear he;induction xs generalizing t with
 | nil=>exact absurd ht (Nat.not_lt_zero _)
 | cons y r ih =>
  cases t with
  | zero =>
   have hx':x=y:=hx;rw [List.takeWhile_cons,decide_eq_true hx'];rfl
  | succ t =>
   have h0:¬x=y:=hno 0 (by omega);rw [List.takeWhile_cons,decide_eq_false h0];show (y::_).length=_;rw [List.length_cons,ih (fun j hj=>hno (j+1) (by omega)) (by simpa using ht) hx]
theorem idxI_no {x:Int} (h:∀ j,j<xs.length->¬x=xs.getD j 0):idxI xs x=-1:=by
 rw [idxI,if_neg];intro hx;obtain ⟨i,hi,e⟩:=mem_getD hx;exact h i hi e.symm
theorem idxI_iff (xs:List Int) (x:Int):0<=idxI xs x↔x∈xs:=by
 unfold idxI;split
 ·rename_i h
  exact ⟨fun _=>h,fun _=>by omega⟩
 rename_i h
 exact ⟨fun q=>absurd q (by decide),fun q=>absurd q h⟩
section
variable {w W:World} {B B2:Nat} {s s2:SlV} {xs ys:List Int}
theorem indexI_any [Lo] (h:SlN w B s xs) (x:Int):Calls prog 272 #[s.v,nv x] w fun e w'=>e=.returned (nv (idxI xs x))/\w'=w:=by
 refine Ze func272 ntmps272 ?_;refine ZrAn [0,1,4] ?_;refine Qd<|ZrM ?_
 refine Za (y_lenM (el:=3) h.len) ?_;refine Xn 1 [0,1,4,7,8] ?_;refine Qj<|Qr (fun t a v=>Holds 19 [(0,s.v),(1,nv x),(7,nv (xs.length:Int)),(8,nv ((t:Nat):Int))] a/\v=w/\t<=xs.length/\(∀ j,j<t->¬x=(xs.getD j 0))) (xs.length+1) (fun a ha=>⟨ha.keep kz,rfl,(Nat.zero_le _),(fun j hj=>absurd hj (Nat.not_lt_zero _))⟩) ?_
 rintro t a v ht ⟨ha,rfl,tle,hno⟩;refine cg_at ha ?_;clear ha a;have le_h:=h.len;have ca_h:=h.cap;refine Zr ?_;refine Zi yi_lss (fun c1=>?_) fun c1=>?_
 ·refine Zn [0,1,7,8,9] ?_;refine Qd<|cg_ct rfl<|Zki [0,1,7,8] ?_
  refine Qd<|Qj<|ZrM ?_
  refine ZAn [0,1,7,8,5] ?_;refine XR 3 ?_;refine Za (y_ixT (i:=t) (iI:=((t:Nat):Int)) h (by omega) (by omega) rfl rfl rfl) ?_;refine Za (y_ldT (i:=t) h (by omega) rfl rfl) ?_;refine Zi yi_eql (fun c2=>?_) fun c2=>?_
  ·refine Znt [0,1,7,8,5,16] ?_;refine XRu 2 [0,1,7,8,4] ?_;refine Qg<|Qc<|Qc<|Qg<|Qc ?_
   exact Qa rfl rfl ⟨congrArg (fun b=>Ending.returned (nv b)) (idxI_at hno (by omega) c2).symm,rfl⟩
  refine Xc 0 [0,1,7,8,5,16] ?_;refine cg_skip<|Qi<|Nx [0,1,7,8] ?_
  refine Qe<|Za Yj ?_
  refine ZM ?_;refine Qk ?_;exact fun a ha=>(show t<(xs.length+1)/\_ from ⟨(by omega),ha.keep kz,rfl,(by omega),(fun j hj=>if q:j<t then hno j q else by
    obtain rfl:j=t:=by omega
    exact c2)⟩)
 refine Zn [0,1,7,8,9] ?_;refine Qd<|cg_cf rfl<|cg_exit<|Qh<|Qh<|Ql<|nx (E':=[]) fn ?_
 refine ZrAr [4] ?_;exact Qa rfl rfl ⟨congrArg (fun b=>Ending.returned (nv b)) (idxI_no fun j hj=>hno j (by omega)).symm,rfl⟩
theorem containsI_any [Lo] (h:SlN w B s xs) (x:Int):Calls prog 233 #[s.v,nv x] w fun e w'=>e=.returned (.bool (decide (x∈xs)))/\w'=w:=by
 refine Ze func233 ntmps233 ?_;refine ZrAn [0,1,4] ?_;refine XR 2 ?_;refine Za (Qp (indexI_any h x)) ?_;refine Zi yi_geq (fun c1=>?_) fun c1=>?_
 ·refine ZAnr [4] ?_;exact Qa rfl rfl ⟨congrArg (fun b=>Ending.returned (.bool b)) (dT ((idxI_iff xs x).1 c1)).symm,rfl⟩
 refine ZAnr [4] ?_;exact Qa rfl rfl ⟨congrArg (fun b=>Ending.returned (.bool b)) (dF (fun q=>c1 ((idxI_iff xs x).2 q))).symm,rfl⟩
theorem numbers_any [Lo] (h:SlN W B s xs) (hB:B<=W.heap.size) (hn:xs.length<=900000):Calls prog 328 #[s.v] W fun e W'=>∃ v,e=.returned v/\∃ r:SlV,v=r.v/\SlN W' W'.heap.size r (numG xs)/\Bw W W':=by
 have h:=h.more hB;refine Ze func328 ntmps328 ?_;have u:=Br W;have le_h:=h.len;have ca_h:=h.cap;refine ZrAn [0,2] ?_;refine ZrAn [0,2,3] ?_;refine Qd<|ZrM ?_
 refine Za (y_lenM (el:=3) h.len) ?_;refine Xn 1 [2,3,6,7,8] ?_;refine Qj ?_;obtain ⟨C,hC⟩:∃ q,q=W.heap.size:=⟨_,rfl⟩;refine Qr (fun t a v=>∃ (qr:SlV),Holds 30 [(3,qr.v),(6,s.v),(7,nv (xs.length:Int)),(8,nv ((t:Nat):Int))] a/\SlN v W.heap.size s xs/\v.ownsRow C 3 1 qr.v (numG (xs.take t)).length ((numG (xs.take t)).map (Value.int .i64))/\Bw W v/\C<=v.heap.size/\t<=xs.length/\W.heap.size<=C) (xs.length+1) (fun a ha=>⟨nilS,ha.keep kz,h,(own_nilN _ _),u,(by omega),(Nat.zero_le _),(by omega)⟩) ?_;rintro t a v ht ⟨qr,ha,h,g0,u,cC,tle,cW⟩;refine cg_at ha ?_;clear ha a;have zv:=u.size;have le_h:=h.len;have ca_h:=h.cap;have lg:=numG_le (xs.take t);rw [List.length_take] at lg;refine Zr ?_;refine Zi yi_lss (fun c1=>?_) fun c1=>?_
 ·refine Zn [3,6,7,8,9] ?_;refine Qd<|cg_ct rfl<|Zki [3,6,7,8] ?_
  refine Qd<|Qj<|Zr<|Za (y_ixT (i:=t) (iI:=((t:Nat):Int)) h (by omega) (by omega) rfl rfl rfl) ?_
  refine Za (y_ldT (i:=t) h (by omega) rfl rfl) ?_;refine ZAn [3,6,7,8,5] ?_;refine Qd ?_;have hs:=numG_take (l:=xs) (k:=t) (by omega);refine Qe<|ZM ?_
  refine Zi yi_geq (fun c2=>?_) fun c2=>?_
  ·refine Xa 2 ?_;refine Zp 14 yi_lss (fun c3=>?_) fun c3=>?_
   ·refine Xa 4 ?_;refine Zp 18 (Qp (containsI_any (own_num g0) (xs.getD t 0))) (fun c4=>?_) fun c4=>?_
    ·refine Xc 2 [3,6,7,8,5,23] ?_;refine cg_skip<|Qi<|Nx [3,6,7,8] ?_
     refine Qe<|Za Yj ?_
     refine ZM ?_;refine Qk ?_;exact fun a ha=>(show t<(xs.length+1)/\_ from ⟨(by omega),qr,ha.keep kz,h,(own_castN g0 (by rw [hs,if_neg (fun q=>q.2.2 c4)])),u,(by omega),(by omega),cW⟩)
    refine Xt 2 [3,6,7,8,5,23] ?_;refine Qe<|ZM ?_
    refine ZM ?_;refine lg_bslice (el:=3) (z:=nv 0) (cs:=#[nv (xs.getD t 0)]) huIs (by kernel_rfl) (by decide) (by decide) rfl rfl (by kernel_rfl) rfl rfl (by decide) fun b5 w5 n5=>?_;have ⟨r5,k5,z5,_⟩:=n5.f;have m5:SlN w5 (b5+1) ⟨some ⟨b5,0,none⟩,1,1⟩ [(xs.getD t 0)]:=new_SlN (xs:=[(xs.getD t 0)]) r5 rfl (of_decide_eq_true (by kernel_rfl));have og5:w5.ownsRow b5 3 1 (.slice (some ⟨b5,0,none⟩) 1 1) ([(xs.getD t 0)]:List Int).length (([(xs.getD t 0)]:List Int).map (Value.int .i64)):=new_ownN (xs:=[(xs.getD t 0)]) n5 rfl (of_decide_eq_true (by kernel_rfl));have g0:=own_below g0 n5.below;refine lg_appT g0 m5 (by simp only [List.length_cons,List.length_nil];omega) (by omega) Wn rfl rfl rfl rfl rfl (by decide) fun r6 w6 m6 g6 l6 z6=>?_;refine ZA ?_;refine Qk<|Qi<|Nx [6,7,8,3] ?_
    refine Qe<|Za Yj ?_
    refine ZM ?_;refine Qk ?_;have h:=(h.below (Bm n5.below)).below (Bm l6);have u:=(Un u n5.below).trans (Bm l6);exact fun a ha=>(show t<(xs.length+1)/\_ from ⟨(by omega),r6,ha.keep kz,h,(own_castN g6 (by rw [hs,if_pos ⟨c2,c3,c4⟩])),u,(by omega),(by omega),cW⟩)
   refine Xc 7 [3,6,7,8,5,23] ?_;refine cg_skip<|Qi<|Nx [3,6,7,8] ?_
   refine Qe<|Za Yj ?_
   refine ZM ?_;refine Qk ?_;exact fun a ha=>(show t<(xs.length+1)/\_ from ⟨(by omega),qr,ha.keep kz,h,(own_castN g0 (by rw [hs,if_neg (fun q=>c3 q.2.1)])),u,(by omega),(by omega),cW⟩)
  refine Xc 10 [3,6,7,8,5,23] ?_;refine cg_skip<|Qi<|Nx [3,6,7,8] ?_
  refine Qe<|Za Yj ?_
  refine ZM ?_;refine Qk ?_;exact fun a ha=>(show t<(xs.length+1)/\_ from ⟨(by omega),qr,ha.keep kz,h,(own_castN g0 (by rw [hs,if_neg (fun q=>c2 q.1)])),u,(by omega),(by omega),cW⟩)
 refine Zn [3,6,7,8,9] ?_;refine Qd<|cg_cf rfl<|cg_exit<|Qh<|Qh<|Ql<|Nx [3] ?_
 refine XRu 2 [2] ?_;obtain rfl:t=xs.length:=by omega
 exact Qa rfl rfl ⟨_,rfl,_,rfl,own_num (own_castN g0 (by rw [List.take_length])),u⟩
end
section
variable {E:Env} {o:Oper} {w:World} {x y:Operand} {t':TypeId} {s:SlV}
theorem y_nilRt (hA:s.A=none) (ho:o.op=.binOp .eql 22 x y t') (hx:val E x=some s.v) (hy:val E y=some (.slice none 0 0)):Yields prog E o w (.bool true) :=
 y_bin (fun x y w=>by
  obtain ⟨A,m,c⟩:=s;simp only at hA;subst hA;rfl) ho hx hy
end
theorem cloneN_any [Lo] (h:RwNd W W.heap.size s Ls) (hle:Ls.length<=1000000) (hA:s.A=none) (h0:Ls=[]):Calls prog 181 #[s.v] W fun e W'=>∃ v,e=.returned v/\∃ r:SlV,v=r.v/\RwNd W' W'.heap.size r (Ls)/\Bw W W':=by
 subst h0;refine Ze func181 ntmps181 ?_;have u:=Br W;have q1:=h.len;have q2:=h.cap;refine ZrAn [0,2] ?_;refine Qd<|ZrM ?_
 refine Zant (y_nilRt hA rfl rfl rfl) [0,2,4] ?_;refine ZrAr [0,2] ?_;refine Qc ?_;exact Qa rfl rfl ⟨_,rfl,nilS,rfl,RwNd.nil _ _,u⟩
theorem cloneE_any [Lo] (h:RwNd W W.heap.size s Ls) (hle:Ls.length<=1000000) {b0:Addr} (hA:s.A=some b0) (h0:Ls=[]):Calls prog 181 #[s.v] W fun e W'=>∃ v,e=.returned v/\∃ r:SlV,v=r.v/\RwNd W' W'.heap.size r (Ls)/\Bw W W':=by
 refine Ze func181 ntmps181 ?_;have u:=Br W;have q1:=h.len;have q2:=h.cap;refine ZrAn [0,2] ?_;refine Qd<|ZrM ?_
 refine Zan (y_nilR hA) [0,2,4] ?_;refine Zcf [0,2] ?_;refine Zr ?_;obtain ⟨bs2,hbs2⟩:∃ q,q=W.heap.size:=⟨_,rfl⟩;refine lg_bs0R Wn rfl rfl (by decide) fun v1 w1 g1 l1=>?_;rw [<-hbs2] at g1;have z1:=l1.size;refine ZM ?_;have h:=h.below (Bm l1);refine lg_appR g1 (h.src.more (B':=bs2) (by omega)) Lr (by simp only [List.length_nil];omega) (by omega) Wn rfl rfl rfl rfl rfl (by decide) fun r3 w3 g3 m3 l3 z3=>?_;rw [List.nil_append] at g3;clear m3;refine ZAnr [2] ?_;exact Qa rfl rfl ⟨_,rfl,_,rfl,(g3.rowS (by omega)),(Un u l1).trans (Bm l3)⟩
theorem clone0_any [Lo] (h:RwNd W W.heap.size s []):Calls prog 181 #[s.v] W fun e W'=>∃ v,e=.returned v/\∃ r:SlV,v=r.v/\RwNd W' W'.heap.size r ([])/\Bw W W':=by
 cases hA:s.A with
 | none=>exact cloneN_any h (by simp) hA rfl
 | some b=>exact cloneE_any h (by simp) hA rfl
theorem drop_unm {t:List Nd} (ht:trIs t) (l:List Int) {i:Nat} (hi:i<t.length):(atN (cutL l k (zapL l t)) i).inner.unm.length<=64:=by
 have h:=(unm_small ht i).2;rw [cutL_at (by rw [zapL_len];exact hi),zap_at hi];have hz:(zapN l i (atN t i)).inner.unm.length<=64:=by
  unfold zapN;split
  ·exact Nat.zero_le _
  exact h
 split
 ·exact Nat.le_trans (cutK_length _ _) hz
 exact hz
theorem dropN_any [Lo] (h:RwNd W B s Ls) (hn:SlN W B r xs) (hB:B<=W.heap.size) (hl:xs.length<=900000) (hno:¬trIs Ls):Calls prog 299 #[s.v,r.v] W fun e W'=>∃ v,e=.returned v/\∃ r:SlV,v=r.v/\RwNd W' W'.heap.size r (dropL xs (trAs Ls))/\Bw W W':=by
 have h:=h.more hB;have hn:=hn.more hB;refine Ze func299 ntmps299 ?_;have u:=Br W;have q1:=h.len;have q2:=h.cap;have q3:=hn.len;have q4:=hn.cap;refine ZrAn [0,1,4] ?_;refine Qd<|ZrM ?_
 refine Zd (sane_any (h.mW W) Lr) ?_;rintro u1 w1 ⟨e1,hw1⟩;have zw1:=hw1.size;obtain rfl:u1=.bool false:=e1.trans (congrArg Value.bool (decide_eq_false hno));refine Xn 1 [0,1,4,14] ?_;refine cg_ct rfl<|ZrAr [0,1,4] ?_
 refine Qc ?_;have u:=Un u hw1;exact Qa rfl rfl ⟨_,rfl,nilS,rfl,(by rw [trAs_no hno];exact RwNd.nil _ _),u⟩
theorem dropE_any [Lo] (h:RwNd W B s []) (hn:SlN W B r xs) (hB:B<=W.heap.size) (hl:xs.length<=900000) (hti:trIs []):Calls prog 299 #[s.v,r.v] W fun e W'=>∃ v,e=.returned v/\∃ r:SlV,v=r.v/\RwNd W' W'.heap.size r (dropL xs (trAs []))/\Bw W W':=by
 have h:=h.more hB;have hn:=hn.more hB;refine Ze func299 ntmps299 ?_;have u:=Br W;have q1:=h.len;have q2:=h.cap;have q3:=hn.len;have q4:=hn.cap;have htl:=trIs_le hti;have hta:=trAs_ok hti;have hlv:leavesA ([]:List Nd)=(([]:List Nd).length+1) / 2:=rfl;have hlz:leavesA ([]:List Nd)=0:=rfl;refine ZrAn [0,1,4] ?_;refine Qd<|ZrM ?_
 refine Zd (sane_any (h.mW W) Lr) ?_;rintro u1 w1 ⟨e1,hw1⟩;have zw1:=hw1.size;obtain rfl:u1=.bool true:=e1.trans (congrArg Value.bool (decide_eq_true hti));refine Xn 1 [0,1,4,14] ?_;refine Zcf [0,1,4] ?_;refine ZrM ?_;have hn:=hn.below (Bm hw1);refine Zc (numbers_any (hn.mW w1) Lr (by omega)) rfl rfl ?_;rintro _ w2 ⟨r2,rfl,m2,hw2⟩;have zw2:=hw2.size;have gl2:=numG_le xs;refine ZM ?_;have h:=(h.below (Bm hw1)).below (Bm hw2);refine Zc ((by have z:=leavesT_any (h.mW w2) Lr;rwa [hta] at z)) rfl rfl ?_;rintro _ w3 ⟨rfl,hw3⟩;have zw3:=hw3.size;refine Xn 2 [0,4,5,6] ?_;refine ZrM ?_;have h:=h.below (Bm hw3);refine Zd (clone0_any (h.mW w3)) ?_;rintro _ w4 ⟨s4,rfl,m4,hw4⟩;have zw4:=hw4.size;refine ZAn [4,5,6,7] ?_;refine Qd<|ZrM ?_
 have m2:=(m2.below (Bm hw3)).below (Bm hw4);refine Za (y_lenM (el:=3) m2.len) ?_;refine Xn 1 [4,5,6,7,21,22,23] ?_;refine Qj ?_;obtain ⟨C,hC⟩:∃ q,q=w4.heap.size:=⟨_,rfl⟩;have u:=Un (Un (Un (Un u hw1) hw2) hw3) hw4;refine Qr (fun t a v=>Holds 55 [(5,r2.v),(6,nv ((leavesA ([]:List Nd):Nat):Int)),(7,s4.v),(21,r2.v),(22,nv ((numG xs).length:Int)),(23,nv ((t:Nat):Int))] a/\SlN v C r2 (numG xs)/\Bw W v/\C<=v.heap.size/\t<=(numG xs).length/\RwNd v C s4 []) ((numG xs).length+1) (fun a ha=>⟨ha.keep kz,(m2.more (by omega)),u,(by omega),(Nat.zero_le _),(m4.more (by omega))⟩) ?_;rintro t a v ht ⟨ha,hg,u,cC,tle,go⟩;refine cg_at ha ?_;clear ha a;have zv:=u.size;have le_g:=hg.len;have ca_g:=hg.cap;have qg:=go.len;refine Zr ?_;refine Zi yi_lss (fun c5=>?_) fun c5=>?_
 ·refine Zn [5,6,7,21,22,23,24] ?_;refine Qd<|cg_ct rfl<|Zki [5,6,7,21,22,23] ?_
  refine Qd<|Qj<|Zr<|Za (y_ixT (i:=t) (iI:=((t:Nat):Int)) hg (by omega) (by omega) rfl rfl rfl) ?_
  refine Za (y_ldT (i:=t) hg (by omega) rfl rfl) ?_;refine ZAn [5,6,7,21,22,23,9] ?_;refine Qd ?_;have htn:t<(numG xs).length:=by omega
  have hmem:=numG_mem.1 (getD_in htn);have hm0:=hmem.2;refine Qe<|ZM ?_
  refine ZM ?_;refine Zanc (yb (dF (show ¬(((numG xs).getD t 0)<((leavesA ([]:List Nd):Nat):Int)) from (by omega))) (yi_lss rfl rfl rfl)) [5,6,7,21,22,23,9,29] ?_;refine cg_skip<|Qi<|Nx [5,6,7,21,22,23] ?_
  refine Qe<|Za Yj ?_
  refine ZM ?_;refine Qk ?_;exact fun a ha=>(show t<((numG xs).length+1)/\_ from ⟨(by omega),ha.keep kz,hg,u,(by omega),(by omega),go⟩)
 refine Zn [5,6,7,21,22,23,24] ?_;refine Qd<|cg_cf rfl<|cg_exit<|Qh<|Qh<|Ql<|Nx [5,7] ?_
 refine Qd<|ZrM ?_
 refine Za (yv (congrArg nv (by rfl)) (y_lenM (el:=81) go.len (by kernel_rfl) rfl rfl)) ?_;refine Xn 1 [5,7,36,37,38] ?_;refine Qj<|Qr (fun k a v=>Holds 55 [(5,r2.v),(7,s4.v),(36,s4.v),(37,nv (0:Int)),(38,nv ((k:Nat):Int))] a/\SlN v C r2 (numG xs)/\Bw W v/\C<=v.heap.size/\k<=0/\RwNd v C s4 []) (([]:List Nd).length+1) (fun a ha=>⟨ha.keep kz,hg,u,(by omega),(Nat.zero_le _),go⟩) ?_
 rintro k a v ht ⟨ha,hg,u,cC,tle,go⟩;refine cg_at ha ?_;clear ha a;have zv:=u.size;have le_g:=hg.len;have ca_g:=hg.cap;refine Zr<|Zan (yb (dF (show ¬(((k:Nat):Int)<(0:Int)) from (by omega))) (yi_lss rfl rfl rfl)) [5,7,36,37,38,39] ?_
 refine Qd<|cg_cf rfl<|cg_exit<|Qh<|Qh<|Ql<|Nx [7] ?_
 refine XRu 2 [4] ?_;exact Qa rfl rfl ⟨_,rfl,_,rfl,(go.more (by omega)).cast (by rw [hta];rfl),u⟩
theorem dropO_any [Lo] (h:RwNd W B s Ls) (hn:SlN W B r xs) (hB:B<=W.heap.size) (hl:xs.length<=900000) (hti:trIs Ls) (hpos:0<Ls.length):Calls prog 299 #[s.v,r.v] W fun e W'=>∃ v,e=.returned v/\∃ r:SlV,v=r.v/\RwNd W' W'.heap.size r (dropL xs (trAs Ls))/\Bw W W':=by
 have h:=h.more hB;have hn:=hn.more hB;refine Ze func299 ntmps299 ?_;have u:=Br W;have q1:=h.len;have q2:=h.cap;have q3:=hn.len;have q4:=hn.cap;have htl:=trIs_le hti;have hta:=trAs_ok hti;have hlv:leavesA Ls=(Ls.length+1) / 2:=rfl;refine ZrAn [0,1,4] ?_;refine Qd<|ZrM ?_
 refine Zd (sane_any (h.mW W) Lr) ?_;rintro u1 w1 ⟨e1,hw1⟩;have zw1:=hw1.size;obtain rfl:u1=.bool true:=e1.trans (congrArg Value.bool (decide_eq_true hti));refine Xn 1 [0,1,4,14] ?_;refine Zcf [0,1,4] ?_;refine ZrM ?_;have hn:=hn.below (Bm hw1);refine Zc (numbers_any (hn.mW w1) Lr (by omega)) rfl rfl ?_;rintro _ w2 ⟨r2,rfl,m2,hw2⟩;have zw2:=hw2.size;have gl2:=numG_le xs;refine ZM ?_;have h:=(h.below (Bm hw1)).below (Bm hw2);refine Zc ((by have z:=leavesT_any (h.mW w2) Lr;rwa [hta] at z)) rfl rfl ?_;rintro _ w3 ⟨rfl,hw3⟩;have zw3:=hw3.size;refine Xn 2 [0,4,5,6] ?_;refine ZrM ?_;have h:=h.below (Bm hw3);obtain ⟨bc,hbc⟩:∃ q,q=w3.heap.size:=⟨_,rfl⟩;refine Zc (clone_any (h.mW w3) hbc hpos (by omega)) rfl rfl ?_;rintro _ w4 ⟨s4,rfl,g4,hw4⟩;have zw4:=hw4.size;obtain ⟨ga4,gb4,gn4⟩:=OwnNa.of g4 Lr (by omega) hpos;refine ZAn [4,5,6,7] ?_;refine Qd<|ZrM ?_
 have m2:=(m2.below (Bm hw3)).below (Bm hw4);refine Za (y_lenM (el:=3) m2.len) ?_;refine Xn 1 [4,5,6,7,21,22,23] ?_;refine Qj ?_;obtain ⟨C,hC⟩:∃ q,q=w4.heap.size:=⟨_,rfl⟩;have u:=Un (Un (Un (Un u hw1) hw2) hw3) hw4;refine Qr (fun t a v=>Holds 55 [(5,r2.v),(6,nv ((leavesA Ls:Nat):Int)),(7,s4.v),(21,r2.v),(22,nv ((numG xs).length:Int)),(23,nv ((t:Nat):Int))] a/\SlN v bc r2 (numG xs)/\Bw W v/\C<=v.heap.size/\t<=(numG xs).length/\OwnNa v ga4 v.heap.size s4 (zapL ((numG xs).take t) Ls)/\ga4<v.heap.size) ((numG xs).length+1) (fun a ha=>⟨ha.keep kz,(m2.more (by omega)),u,(by omega),(Nat.zero_le _),(gn4.up.cast (zap_none Ls).symm),gn4.lt⟩) ?_;rintro t a v ht ⟨ha,hg,u,cC,tle,go,gC⟩;refine cg_at ha ?_;clear ha a;have zv:=u.size;have le_g:=hg.len;have ca_g:=hg.cap;have zl:=zapL_len ((numG xs).take t) Ls;have qg:=go.len;refine Zr ?_;refine Zi yi_lss (fun c5=>?_) fun c5=>?_
 ·refine Zn [5,6,7,21,22,23,24] ?_;refine Qd<|cg_ct rfl<|Zki [5,6,7,21,22,23] ?_
  refine Qd<|Qj<|Zr<|Za (y_ixT (i:=t) (iI:=((t:Nat):Int)) hg (by omega) (by omega) rfl rfl rfl) ?_
  refine Za (y_ldT (i:=t) hg (by omega) rfl rfl) ?_;refine ZAn [5,6,7,21,22,23,9] ?_;refine Qd ?_;have htn:t<(numG xs).length:=by omega
  have hmem:=numG_mem.1 (getD_in htn);have hm0:=hmem.2;refine Qe<|ZM ?_
  refine ZM ?_;refine Zi yi_lss (fun c6=>?_) fun c6=>?_
  ·refine Znt [5,6,7,21,22,23,9,29] ?_;refine Qe<|ZM ?_
   refine ZM ?_;refine Za (yv (congrArg nv (show 2*((numG xs).getD t 0)=(((2*((numG xs).getD t 0)).toNat:Nat):Int) by omega)) (yi_mul rfl rfl rfl (by omega) (by omega))) ?_;refine Za (y_build (cs:=NdV.zero.cs Nd.zero)) ?_;refine Za (Yx s4 81 8 ((2*((numG xs).getD t 0)).toNat) go.1 (by have q1:=go.len;first | omega | (simp only [List.length_append,List.length_cons,List.length_nil,List.length_take,List.length_drop,List.length_set,List.length_replicate,clr_len] at q1;omega)) rfl rfl rfl) ?_;refine lg_stA (i:=((2*((numG xs).getD t 0)).toNat)) go ((IsNd.zero _ 0).mW v) (OffNd.zero _) (by omega) Wn rfl rfl rfl rfl fun w7 new7 st7 g7=>?_;have z7:=st7.size;refine Qk<|Qi<|Nx [5,6,7,21,22,23] ?_
   refine Qe<|Za Yj ?_
   refine ZM ?_;refine Qk ?_;have hg:=hg.below st7.bl;have u:=u.trans st7.bl;exact fun a ha=>(show t<((numG xs).length+1)/\_ from ⟨(by omega),ha.keep kz,hg,u,(by omega),(by omega),(g7.up.cast (by rw [zap_snoc (by omega) c6,<-(take_succ_getD (numG xs) t htn)])),g7.lt⟩)
  refine Xc 0 [5,6,7,21,22,23,9,29] ?_;refine cg_skip<|Qi<|Nx [5,6,7,21,22,23] ?_
  refine Qe<|Za Yj ?_
  refine ZM ?_;refine Qk ?_;exact fun a ha=>(show t<((numG xs).length+1)/\_ from ⟨(by omega),ha.keep kz,hg,u,(by omega),(by omega),(go.up.cast (by rw [zap_out (l:=(numG xs).take t) c6,<-(take_succ_getD (numG xs) t htn)])),go.lt⟩)
 refine Zn [5,6,7,21,22,23,24] ?_;refine Qd<|cg_cf rfl<|cg_exit<|Qh<|Qh<|Ql<|Nx [5,7] ?_
 refine Qd<|ZrM ?_
 refine Za (yv (congrArg nv (by rw [zapL_len])) (y_lenM (el:=81) go.row.len (by kernel_rfl) rfl rfl)) ?_;refine Xn 1 [5,7,36,37,38] ?_;refine Qj<|Qr (fun k a v=>Holds 55 [(5,r2.v),(7,s4.v),(36,s4.v),(37,nv (Ls.length:Int)),(38,nv ((k:Nat):Int))] a/\SlN v bc r2 (numG xs)/\Bw W v/\C<=v.heap.size/\k<=Ls.length/\OwnNa v ga4 v.heap.size s4 (cutL (numG xs) k (zapL (numG xs) Ls))/\ga4<v.heap.size) (Ls.length+1) (fun a ha=>⟨ha.keep kz,hg,u,(by omega),(Nat.zero_le _),(go.up.cast (by rw [List.take_of_length_le (by omega)];exact (cut_none _ _).symm)),go.lt⟩) ?_
 rintro k a v ht ⟨ha,hg,u,cC,tle,go,gC⟩;refine cg_at ha ?_;clear ha a;have zv:=u.size;have le_g:=hg.len;have ca_g:=hg.cap;have zl:=zapL_len (numG xs) Ls;have cl:=cutL_len (numG xs) k (zapL (numG xs) Ls);have qg:=go.len;refine Zr ?_;refine Zi yi_lss (fun c8=>?_) fun c8=>?_
 ·refine Zn [5,7,36,37,38,39] ?_;refine Qd<|cg_ct rfl<|Zki [5,7,36,37,38] ?_
  refine Qd<|Qj<|ZrM ?_
  refine Za (Yx s4 81 8 k go.1 (by have q1:=go.len;first | omega | (simp only [List.length_append,List.length_cons,List.length_nil,List.length_take,List.length_drop,List.length_set,List.length_replicate,clr_len] at q1;omega)) rfl rfl rfl) ?_;obtain ⟨el9,eh9,ef9,ec9⟩:=go.at (i:=k) (by omega);refine Za (y_loadC (cs:=el9.cs (atN (cutL (numG xs) k (zapL (numG xs) Ls)) k)) ec9) ?_;refine lg_allocw (cs:=NdV.zero.cs Nd.zero) Wn rfl (by kernel_rfl) rfl (by decide) fun b10 w10 n10=>?_;have ⟨r10,k10,z10,lt10⟩:=n10.f;refine ZA ?_;have o11:=r10;refine Zw r10 fun w11 s11=>?_;have ⟨r10,z11⟩:=s11.f;refine Zn [5,7,36,37,38,11,10] ?_;have hun:=drop_unm hti (numG xs) (k:=k) (i:=k) (by omega);refine Qe<|ZM ?_
  refine ZM ?_;refine Zy 5 ?_;refine Zy 2 ?_;refine Zv el9.inner.unm.v r10 ?_;refine ZM ?_;have eh9:=(eh9.below (Bm n10.below)).below s11.bl;have hg:=(hg.below (Bm n10.below)).below s11.bl;refine Zc (cutPF_any (eh9.inner.unm.mW w11) (hg.mW w11) Lr Lr (by omega) (by omega)) rfl rfl ?_;rintro _ w12 ⟨r12,rfl,m12,f12,hw12⟩;have zw12:=hw12.size;have go:=((go.below n10.below).set1 s11 (by omega) (by omega)).below hw12;refine Za (Yx s4 81 8 k go.1 (by have q1:=go.len;first | omega | (simp only [List.length_append,List.length_cons,List.length_nil,List.length_take,List.length_drop,List.length_set,List.length_replicate,clr_len] at q1;omega)) rfl rfl rfl) ?_;refine Zy 5 ?_;refine Zy 2 ?_;refine lg_stU (i:=k) (r:=r12) go (m12.mW w12) (OffS.fr f12 (by omega)) (by omega) Wn rfl rfl rfl rfl fun w13 new13 st13 g13=>?_;have z13:=st13.size;refine Qk<|Qi<|Nx [5,7,36,37,38] ?_
  refine Qe<|Za Yj ?_
  refine ZM ?_;refine Qk ?_;exact fun a ha=>(show k<(Ls.length+1)/\_ from ⟨(by omega),ha.keep kz,(hg.below (Bm hw12)).below st13.bl,(Un ((Un u n10.below).trans s11.bl) hw12).trans st13.bl,(by omega),(by omega),(g13.up.cast (cut_snoc (l:=(numG xs)) (t:=zapL (numG xs) Ls) (by omega))),g13.lt⟩)
 refine Zn [5,7,36,37,38,39] ?_;refine Qd<|cg_cf rfl<|cg_exit<|Qh<|Qh<|Ql<|Nx [7] ?_
 refine XRu 2 [4] ?_;obtain rfl:k=Ls.length:=by omega
 exact Qa rfl rfl ⟨_,rfl,_,rfl,go.row.cast (by have e:=cut_zap (numG xs) Ls;rw [e,drop_num hti,hta]),u⟩
theorem drop_any [Lo] (h:RwNd W B s Ls) (hn:SlN W B r xs) (hB:B<=W.heap.size) (hl:xs.length<=900000):Calls prog 299 #[s.v,r.v] W fun e W'=>∃ v,e=.returned v/\∃ r:SlV,v=r.v/\RwNd W' W'.heap.size r (dropL xs (trAs Ls))/\Bw W W':=by
 by_cases hti:trIs Ls
 ·by_cases hpos:0<Ls.length
  ·exact dropO_any h hn hB hl hti hpos
  obtain rfl:Ls=[]:=List.eq_nil_of_length_eq_zero (by omega);exact dropE_any h hn hB hl hti
 exact dropN_any h hn hB hl hti
theorem without_any [Lo] (h:RwNd W B s Ls) (x:Int) (hn:SlN W B r xs) (hB:B<=W.heap.size) (hl:xs.length<=900000) (rg:Tt W):Calls prog 266 #[s.v,nv x,r.v] W fun e W'=>∃ v,e=.returned v/\∃ r:SlV,v=r.v/\Sl W' W'.heap.size r (ofH (dropL xs (trAs Ls)) x)/\Bw W W':=by
 have h:=h.more hB;have hn:=hn.more hB;refine Ze func266 ntmps266 ?_;have u:=Br W;refine ZrAn [0,1,2,6] ?_;refine XR 2 ?_;refine Zc (drop_any (h.mW W) (hn.mW W) Lr (by omega)) rfl rfl ?_;rintro _ w1 ⟨s1,rfl,m1,hw1⟩;have zw1:=hw1.size;refine ZM ?_;have u:=Un u hw1;refine Zd (of_any (m1.mW w1) x Lr (Tt.up u rg)) ?_;rintro _ w2 ⟨r2,rfl,m2,hw2⟩;have zw2:=hw2.size;have ol2:=ofH_len (trAs (dropL xs (trAs Ls))) x;refine ZAnr [6] ?_;exact Qa rfl rfl ⟨_,rfl,_,rfl,(by have z:=m2;rwa [trAs_ok (drop_is (trAs_is Ls) xs)] at z),Un u hw2⟩
/- HsDropR:
  A tree without some leaves: the document.
-/
set_option maxRecDepth 20000
end Go.Proofs.YtjjdcnkbibkmkaaGreatDoor
