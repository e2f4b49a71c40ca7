/-
  KitV: Arith, VaBase, VaGet, VaGot, VaPut, VaOct, VaMore, VaApp, VaAny, WiBase, WiPut, WiGet, WiCat, WiNums, WiRow, WiMath, WiBits, CatTwo.
-/
import Derived.Laws.Bits128
import Derived.Test.YtjjdcnkbibkmkaaGreatDoorKitA
import Derived.Lib.AppendZeros
namespace Go.Proofs.YtjjdcnkbibkmkaaGreatDoor
open Go.Proofs.Tryz
open Go.ChangeShapes Go.WideShapes Go.ChangeAt Go.RowKit
set_option linter.unusedVariables false

/- Arith:
  Bits as remainders; the order of octets as of strings.
-/
/- VaBase:
  Plain contracts of package varint's small functions (Size, told, marked), for every argument: what each returns, the world as it was.
-/
def sizeN (n:Int):Int:=if n<0\/1073741823<n then 0 else if n<=63 then 1 else if n<=16383 then 2 else 4
def toldN (x:Int):Int:=if x<64 then 1 else if x<128 then 2 else if x<192 then 4 else 0

theorem sizeN_0 {n:Int} (h:n<0\/1073741823<n):sizeN n=0:=by unfold sizeN;rw [if_pos h]
theorem sizeN_1 {n:Int} (h:0<=n) (h1:n<=63):sizeN n=1:=by unfold sizeN;rw [if_neg (by omega),if_pos h1]
theorem sizeN_2 {n:Int} (h:63<n) (h1:n<=16383):sizeN n=2:=by unfold sizeN;rw [if_neg (by omega),if_neg (by omega),if_pos h1]
theorem sizeN_4 {n:Int} (h:16383<n) (h1:n<=1073741823):sizeN n=4:=by unfold sizeN;rw [if_neg (by omega),if_neg (by omega),if_neg (by omega)]
theorem toldN_1 {n:Int} (h:n<64):toldN n=1:=by unfold toldN;rw [if_pos h]
theorem toldN_2 {n:Int} (h:64<=n) (h1:n<128):toldN n=2:=by unfold toldN;rw [if_neg (by omega),if_pos h1]
theorem toldN_4 {n:Int} (h:128<=n) (h1:n<192):toldN n=4:=by unfold toldN;rw [if_neg (by omega),if_neg (by omega),if_pos h1]
theorem toldN_0 {n:Int} (h:192<=n):toldN n=0:=by unfold toldN;rw [if_neg (by omega),if_neg (by omega),if_neg (by omega)]

def valN (x:Int) (ys:List Int):Int:=ys.foldl (fun a y=>a*256+y) (x % 64)
theorem valN_snoc (x y:Int) (l:List Int):valN x (l++[y])=valN x l*256+y:=by simp [valN,List.foldl_append]
theorem valN_step (x:Int) (ys:List Int) (j:Nat) (h:j<ys.length):valN x (ys.take (j+1))=valN x (ys.take j)*256+ys[j]:=by
 rw [List.take_succ_eq_append_getElem h,valN_snoc]
theorem valN_bd (x:Int) (ys:List Int) (h:∀ y∈ys,0<=y/\y<=255) (hl:ys.length<=3):0<=valN x ys/\valN x ys<1073741824:=by
 match ys,h,hl with
 | [],_,_=>simp only [valN,List.foldl_nil];omega
 | [a],h,_=>have ha:=h a (by simp);simp only [valN,List.foldl_nil,List.foldl_cons];omega
 | [a,b],h,_=>have ha:=h a (by simp);have hb:=h b (by simp);simp only [valN,List.foldl_nil,List.foldl_cons];omega
 | [a,b,c],h,_=>have ha:=h a (by simp);have hb:=h b (by simp);have hc:=h c (by simp);simp only [valN,List.foldl_nil,List.foldl_cons];omega
 | _::_::_::_::_,_,hl=>simp at hl

theorem size_any (n:Int) (w:World):Calls prog 268 #[.int .i64 n] w fun e w'=>e=.returned (.int .i64 (sizeN n))/\w=w':=by
 by_cases h0:n<0
 ·go_enter func268,ntmps268
  go_wp2
  go_ret
  exact ⟨retInt (sizeN_0 (.inl h0)).symm,rfl⟩
 by_cases h1:1073741823<n
 ·go_enter func268,ntmps268
  go_wp2
  go_ret
  exact ⟨retInt (sizeN_0 (.inr h1)).symm,rfl⟩
 by_cases h2:n<=63
 ·go_enter func268,ntmps268
  go_wp2
  go_ret
  exact ⟨retInt (sizeN_1 (by omega) h2).symm,rfl⟩
 by_cases h3:n<=16383
 ·go_enter func268,ntmps268
  go_wp2
  go_ret
  exact ⟨retInt (sizeN_2 (by omega) h3).symm,rfl⟩
 go_enter func268,ntmps268
 go_wp2
 go_ret
 exact ⟨retInt (sizeN_4 (by omega) (by omega)).symm,rfl⟩

theorem told_any (n:Int) (w:World):Calls prog 267 #[.int .u8 n] w fun e w'=>e=.returned (.int .i64 (toldN n))/\w=w':=by
 by_cases h0:n<64
 ·go_enter func267,ntmps267
  go_wp2
  go_ret
  exact ⟨retInt (toldN_1 h0).symm,rfl⟩
 by_cases h1:n<128
 ·go_enter func267,ntmps267
  go_wp2
  go_ret
  exact ⟨retInt (toldN_2 (by omega) h1).symm,rfl⟩
 by_cases h2:n<192
 ·go_enter func267,ntmps267
  go_wp2
  go_ret
  exact ⟨retInt (toldN_4 (by omega) h2).symm,rfl⟩
 go_enter func267,ntmps267
 go_wp2
 go_ret
 exact ⟨retInt (toldN_0 (by omega)).symm,rfl⟩

def markN (k:Int):Int:=if k=2 then 16384 else if k=4 then 2147483648 else 0

theorem marked_any (n k:Int) (w:World) (h0:0<=n) (h1:n<=1073741823) :
  Calls prog 290 #[.int .i64 n,.int .i64 k] w fun e w'=>e=.returned (.int .u32 (n+markN k))/\w=w':=by
 by_cases h2:k=2
 ·subst h2
  go_enter func290,ntmps290
  go_wp2
  go_ret
  exact ⟨retInt (by simp [markN]),rfl⟩
 by_cases h3:k=4
 ·subst h3
  go_enter func290,ntmps290
  go_wp2
  go_ret
  exact ⟨retInt (by simp [markN]),rfl⟩
 go_enter func290,ntmps290
 go_wp2
 go_ret
 exact ⟨retInt (by simp [markN,h2,h3]),rfl⟩
/- VaGet:
  The contract of varint.Get, for every slice of octets.
-/
def getK (xs:List Int):Nat:=(toldN (xs.headD 192)).toNat
def getV (xs:List Int):Int:=valN (xs.headD 0) (xs.tail.take (getK xs-1))
def getE (xs:List Int):Int :=
 if xs.length=0 then 1 else if getK xs=0 then 2 else if xs.length<getK xs then 1 else if sizeN (getV xs)=getK xs then 0 else 2

/- VaGot:
  The contract of varint.Get in two halves, for every slice of octets: where it answers an error, and where it answers a number and the rest.
-/
theorem toldN_cases (x:Int):toldN x=0/\192<=x\/toldN x=1/\x<64\/toldN x=2/\64<=x/\x<128\/toldN x=4/\128<=x/\x<192:=by
 rcases Int.lt_or_le x 64 with h | h
 ·exact .inr (.inl ⟨toldN_1 h,h⟩)
 rcases Int.lt_or_le x 128 with h1 | h1
 ·exact .inr (.inr (.inl ⟨toldN_2 h h1,h,h1⟩))
 rcases Int.lt_or_le x 192 with h2 | h2
 ·exact .inr (.inr (.inr ⟨toldN_4 h1 h2,h1,h2⟩))
 exact .inl ⟨toldN_0 h2,h2⟩

theorem getK_cons (x:Int) (ys:List Int):getK (x::ys)=(toldN x).toNat:=rfl
theorem getV_cons (x:Int) (ys:List Int):getV (x::ys)=valN x (ys.take (getK (x::ys)-1)):=rfl
theorem getK_le (xs:List Int):getK xs<=4:=by
 unfold getK;rcases toldN_cases (xs.headD 192) with h | h | h | h<;>rw [h.1]<;>decide

theorem getE_ok {xs:List Int} (h:getE xs=0):1<=getK xs/\getK xs<=xs.length/\sizeN (getV xs)=getK xs:=by
 unfold getE at h;by_cases h0:xs.length=0
 ·rw [if_pos h0] at h;simp at h
 rw [if_neg h0] at h;by_cases h1:getK xs=0
 ·rw [if_pos h1] at h;simp at h
 rw [if_neg h1] at h;by_cases h2:xs.length<getK xs
 ·rw [if_pos h2] at h;simp at h
 rw [if_neg h2] at h;by_cases h3:sizeN (getV xs)=getK xs
 ·exact ⟨by omega,by omega,h3⟩
 rw [if_neg h3] at h;simp at h

/- VaPut:
  The contract of varint.Put, for every slice of octets and every number.
-/
theorem put_none (v:Value) (m:Int) (w:World) (hm:sizeN m=0):Calls prog 251 #[v,.int .i64 m] w fun e w'=>e=.returned v/\w=w':=by
 go_enter func251,ntmps251
 go_wp2_with (go_at_call 268;refine (size_any _ _).mono ?_;rintro e w' ⟨rfl,rfl⟩)
 go_ret
 exact ⟨rfl,rfl⟩

def octN (m:Int):List Int :=
 if sizeN m=4 then [128+m / 16777216,m / 65536 % 256,m / 256 % 256,m % 256] else if sizeN m=2 then [64+m / 256,m % 256] else if sizeN m=1 then [m] else []

def PutWell (w:World) (ys:List Int) (e:Ending) (w':World):Prop :=
 ∃ g cap,e=.returned (.slice (some ⟨g,0,none⟩) ys.length cap)/\w.heap.size<=g/\ys.length<=cap/\cap<=maxLen/\Oct w' w'.heap.size (some ⟨g,0,none⟩) ys.length ys/\Bw w w'

theorem well_of {w0 w:World} {g k cap:Nat} {l:List Value} {ys:List Int} (h:w.ownsRow w0.heap.size 5 1 (.slice (some ⟨g,0,none⟩) k cap) k l) (hk:ys.length=k) (hl:l=ys.map (Value.int .u8)) (hy:∀ y∈ys,0<=y/\y<=255)
  (hb:Bw w0 w):PutWell w0 ys (.returned (.slice (some ⟨g,0,none⟩) k cap)) w:=by
 subst hl hk;obtain ⟨hg0,hg1⟩:=h.lt g rfl;have hc:=h.cells (g:=g) rfl;refine ⟨g,cap,rfl,hg0,?_,?_,⟨rfl,hy,fun _=>⟨g,0,rfl,hg1,fun i x hx=>?_⟩⟩,hb⟩
 ·rcases h.2 with ⟨hv,_⟩ | ⟨g',cap',cur,hv,_,_,h1,_⟩
  ·simp at hv
  simp at hv;omega
 ·rcases h.2 with ⟨hv,_⟩ | ⟨g',cap',cur,hv,_,_,_,h2,_⟩
  ·simp at hv
  simp at hv;omega
 have:=hc i (.int .u8 x) (by rw [List.getElem?_map,hx];rfl);rwa [Addr.add_lit] at this

theorem put4 (A:Option Addr) (n c B:Nat) (xs:List Int) (m:Int) (w:World) (hO:Oct w B A n xs) (hB:B<=w.heap.size) (hn:n<=70368744177664) (h0:16383<m) (h1:m<=1073741823) :
    Calls prog 251 #[.slice A n c,.int .i64 m] w (PutWell w (xs++octN m)):=by
  obtain ⟨i0,hi0,hz0,hz1,hz2⟩:=info_parts info5;have hs:sizeN m=4:=sizeN_4 h0 h1;have hmk:=make_row n 4 4 rfl (by omega);obtain ⟨W1,hcp,how,hbw,hsz1⟩:=copy_row A n c B 4 xs w hO hB (by unfold maxLen;omega);have HO:=Lib.hid hO;have HOW:=Lib.hid how;have HN:Hid (octN m=[128+m / 16777216,m / 65536 % 256,m / 256 % 256,m % 256]):=by show octN m=_;unfold octN;rw [hs];rfl
  have HM:Hid (markN 4=2147483648):=by show markN 4=_;rfl
  clear hO how
  go_enter func251,ntmps251
  go_wp2_with (first
    | (go_at_call 268;refine (size_any _ _).mono ?_;rintro e w' ⟨rfl,rfl⟩)
    | (go_at_call 290;refine (marked_any _ _ _ (by omega) (by omega)).mono ?_;rintro e w' ⟨rfl,rfl⟩)
    | (at_builtin
       refine wpList_append_fits _ rfl (.tmp 33) (.tmp 40) 26 rfl w.heap.size 5 i0 1 Tryz.underlying26 hi0 hz1 w.heap.size (n) (n+4) (xs.map (Value.int .u8)) rfl (HOW.out.alloc _) ⟨W1.heap.size,0,none⟩ 2 2 [Value.int .u8 ((m+markN 4) / 16777216 % 256),Value.int .u8 ((m+markN 4) / 65536 % 256)] rfl rfl (new_cells W1 _) (by simp [Value.oneCell']) (by omega) ?_;intro W2 how2 hg2;have H2:=Lib.hid how2;clear how2)
    | (at_builtin
       refine wpList_append_fits _ rfl (.tmp 42) (.tmp 46) 26 rfl w.heap.size 5 i0 1 Tryz.underlying26 hi0 hz1 w.heap.size (n+2) (n+4) (xs.map (Value.int .u8)++[Value.int .u8 ((m+markN 4) / 16777216 % 256),Value.int .u8 ((m+markN 4) / 65536 % 256)]) rfl (H2.out.alloc _) ⟨W2.heap.size,0,none⟩ 1 1 [Value.int .u8 ((m+markN 4) / 256 % 256)] rfl rfl (new_cells W2 _) (by simp [Value.oneCell']) (by omega) ?_;intro W3 how3 hg3;have H3:=Lib.hid how3;clear how3)
    | (at_builtin
       refine wpList_append_fits _ rfl (.tmp 48) (.tmp 51) 26 rfl w.heap.size 5 i0 1 Tryz.underlying26 hi0 hz1 w.heap.size (n+2+1) (n+4) (xs.map (Value.int .u8)++[Value.int .u8 ((m+markN 4) / 16777216 % 256),Value.int .u8 ((m+markN 4) / 65536 % 256)]++[Value.int .u8 ((m+markN 4) / 256 % 256)]) rfl (H3.out.alloc _) ⟨W3.heap.size,0,none⟩ 1 1 [Value.int .u8 ((m+markN 4) % 256)] rfl rfl (new_cells W3 _) (by simp [Value.oneCell']) (by omega) ?_;intro W4 how4 hg4;have H4:=Lib.hid how4;clear how4))
  go_ret
  have b2:=below_app hbw (by omega) Lr hg2;have b3:=below_app b2.1 b2.2 Lr hg3;have b4:=below_app b3.1 b3.2 Lr hg4;refine well_of H4.out ?_ ?_ ?_ b4.1
  · rw [HN.out,List.length_append,HO.out.1];rfl
  · rw [HN.out,HM.out,List.map_append]
    simp only [List.append_assoc,List.cons_append,List.nil_append,List.map_cons,List.map_nil];rw [show (m+2147483648) / 16777216 % 256=128+m / 16777216 from by omega,show (m+2147483648) / 65536 % 256=m / 65536 % 256 from by omega,show (m+2147483648) / 256 % 256=m / 256 % 256 from by omega,show (m+2147483648) % 256=m % 256 from by omega]
  · rw [HN.out]
    intro y hy;rw [List.mem_append] at hy;rcases hy with hy | hy
    · exact HO.out.2.1 y hy
    · simp only [List.mem_cons,List.not_mem_nil,or_false] at hy
      omega

theorem put2 (A:Option Addr) (n c B:Nat) (xs:List Int) (m:Int) (w:World) (hO:Oct w B A n xs) (hB:B<=w.heap.size) (hn:n<=70368744177664) (h0:63<m) (h1:m<=16383) :
    Calls prog 251 #[.slice A n c,.int .i64 m] w (PutWell w (xs++octN m)):=by
  obtain ⟨i0,hi0,hz0,hz1,hz2⟩:=info_parts info5;have hs:sizeN m=2:=sizeN_2 h0 h1;have hmk:=make_row n 2 2 rfl (by omega);obtain ⟨W1,hcp,how,hbw,hsz1⟩:=copy_row A n c B 2 xs w hO hB (by unfold maxLen;omega);have HO:=Lib.hid hO;have HOW:=Lib.hid how;have HN:Hid (octN m=[64+m / 256,m % 256]):=by show octN m=_;unfold octN;rw [hs];rfl
  have HM:Hid (markN 2=16384):=by show markN 2=_;rfl
  clear hO how
  go_enter func251,ntmps251
  go_wp2_with (first
    | (go_at_call 268;refine (size_any _ _).mono ?_;rintro e w' ⟨rfl,rfl⟩)
    | (go_at_call 290;refine (marked_any _ _ _ (by omega) (by omega)).mono ?_;rintro e w' ⟨rfl,rfl⟩)
    | (at_builtin
       refine wpList_append_fits _ rfl (.tmp 42) (.tmp 46) 26 rfl w.heap.size 5 i0 1 Tryz.underlying26 hi0 hz1 w.heap.size (n) (n+2) (xs.map (Value.int .u8)) rfl (HOW.out.alloc _) ⟨W1.heap.size,0,none⟩ 1 1 [Value.int .u8 ((m+markN 2) / 256 % 256)] rfl rfl (new_cells W1 _) (by simp [Value.oneCell']) (by omega) ?_;intro W2 how2 hg2;have H2:=Lib.hid how2;clear how2)
    | (at_builtin
       refine wpList_append_fits _ rfl (.tmp 48) (.tmp 51) 26 rfl w.heap.size 5 i0 1 Tryz.underlying26 hi0 hz1 w.heap.size (n+1) (n+2) (xs.map (Value.int .u8)++[Value.int .u8 ((m+markN 2) / 256 % 256)]) rfl (H2.out.alloc _) ⟨W2.heap.size,0,none⟩ 1 1 [Value.int .u8 ((m+markN 2) % 256)] rfl rfl (new_cells W2 _) (by simp [Value.oneCell']) (by omega) ?_;intro W3 how3 hg3;have H3:=Lib.hid how3;clear how3))
  go_ret
  have b2:=below_app hbw (by omega) Lr hg2;have b3:=below_app b2.1 b2.2 Lr hg3;refine well_of H3.out ?_ ?_ ?_ b3.1
  · rw [HN.out,List.length_append,HO.out.1];rfl
  · rw [HN.out,HM.out,List.map_append]
    simp only [List.append_assoc,List.cons_append,List.nil_append,List.map_cons,List.map_nil];rw [show (m+16384) / 256 % 256=64+m / 256 from by omega,show (m+16384) % 256=m % 256 from by omega]
  · rw [HN.out]
    intro y hy;rw [List.mem_append] at hy;rcases hy with hy | hy
    · exact HO.out.2.1 y hy
    · simp only [List.mem_cons,List.not_mem_nil,or_false] at hy
      omega

theorem put1 (A:Option Addr) (n c B:Nat) (xs:List Int) (m:Int) (w:World) (hO:Oct w B A n xs) (hB:B<=w.heap.size) (hn:n<=70368744177664) (h0:0<=m) (h1:m<=63) :
    Calls prog 251 #[.slice A n c,.int .i64 m] w (PutWell w (xs++octN m)):=by
  obtain ⟨i0,hi0,hz0,hz1,hz2⟩:=info_parts info5;have hs:sizeN m=1:=sizeN_1 h0 h1;have hmk:=make_row n 1 1 rfl (by omega);obtain ⟨W1,hcp,how,hbw,hsz1⟩:=copy_row A n c B 1 xs w hO hB (by unfold maxLen;omega);have HO:=Lib.hid hO;have HOW:=Lib.hid how;have HN:Hid (octN m=[m]):=by show octN m=_;unfold octN;rw [hs];rfl
  have HM:Hid (markN 1=0):=by show markN 1=_;rfl
  clear hO how
  go_enter func251,ntmps251
  go_wp2_with (first
    | (go_at_call 268;refine (size_any _ _).mono ?_;rintro e w' ⟨rfl,rfl⟩)
    | (go_at_call 290;refine (marked_any _ _ _ (by omega) (by omega)).mono ?_;rintro e w' ⟨rfl,rfl⟩)
    | (at_builtin
       refine wpList_append_fits _ rfl (.tmp 48) (.tmp 51) 26 rfl w.heap.size 5 i0 1 Tryz.underlying26 hi0 hz1 w.heap.size (n) (n+1) (xs.map (Value.int .u8)) rfl (HOW.out.alloc _) ⟨W1.heap.size,0,none⟩ 1 1 [Value.int .u8 ((m+markN 1) % 256)] rfl rfl (new_cells W1 _) (by simp [Value.oneCell']) (by omega) ?_;intro W2 how2 hg2;have H2:=Lib.hid how2;clear how2))
  go_ret
  have b2:=below_app hbw (by omega) Lr hg2;refine well_of H2.out ?_ ?_ ?_ b2.1
  · rw [HN.out,List.length_append,HO.out.1];rfl
  · rw [HN.out,HM.out,List.map_append]
    simp only [List.map_cons,List.map_nil];rw [show (m+0) % 256=m from by omega]
  · rw [HN.out]
    intro y hy;rw [List.mem_append] at hy;rcases hy with hy | hy
    · exact HO.out.2.1 y hy
    · simp only [List.mem_cons,List.not_mem_nil,or_false] at hy
      omega

theorem sizeN_cases (m:Int):sizeN m=0/\(m<0\/1073741823<m)\/sizeN m=1/\0<=m/\m<=63\/sizeN m=2/\63<m/\m<=16383\/sizeN m=4/\16383<m/\m<=1073741823:=by
 by_cases h:m<0\/1073741823<m
 ·exact .inl ⟨sizeN_0 h,h⟩
 by_cases h1:m<=63
 ·exact .inr (.inl ⟨sizeN_1 (by omega) h1,by omega,h1⟩)
 by_cases h2:m<=16383
 ·exact .inr (.inr (.inl ⟨sizeN_2 (by omega) h2,by omega,h2⟩))
 exact .inr (.inr (.inr ⟨sizeN_4 (by omega) (by omega),by omega,by omega⟩))

theorem put_some (A:Option Addr) (n c B:Nat) (xs:List Int) (m:Int) (w:World) (hO:Oct w B A n xs) (hB:B<=w.heap.size) (hn:n<=70368744177664) (hm:sizeN m≠0) :
  Calls prog 251 #[.slice A n c,.int .i64 m] w (PutWell w (xs++octN m)):=by
 rcases sizeN_cases m with h | h | h | h
 ·exact absurd h.1 hm
 ·exact put1 A n c B xs m w hO hB hn h.2.1 h.2.2
 ·exact put2 A n c B xs m w hO hB hn h.2.1 h.2.2
 exact put4 A n c B xs m w hO hB hn h.2.1 h.2.2

theorem octN_length (m:Int):((octN m).length:Int)=sizeN m:=by
 unfold octN;rcases sizeN_cases m with h | h | h | h<;>rw [h.1]<;>rfl
/- VaOct:
  Octets in memory: a slice that reads as a list of octets, and as a string.
-/
/- VaMore:
  Put behind no octets, in one contract; plain facts on octets and strings.
-/
def PutNew (w:World) (L:Nat) (ys:List Int) (e:Ending) (w':World):Prop :=
 ∃ A cap,e=.returned (.slice A L cap)/\L<=cap/\cap<=maxLen/\Oct w' w'.heap.size A L ys/\Bw w w'

theorem octN_none {m:Int} (h:sizeN m=0):octN m=[]:=by unfold octN;rw [h];rfl

theorem put_new (m:Int) (w:World):Calls prog 251 #[.slice none 0 0,.int .i64 m] w (PutNew w (octN m).length (octN m)):=by
 by_cases hm:sizeN m=0
 ·refine (put_none _ m w hm).mono ?_;rintro e w' ⟨rfl,rfl⟩;rw [octN_none hm];exact ⟨none,0,rfl,Nat.le_refl _,Nat.zero_le _,Oct.nil _ _ _,Below.refl _ _⟩
 refine (put_some none 0 0 0 [] m w (Oct.nil _ _ _) (Nat.zero_le _) (by omega) hm).mono ?_;rintro e w' ⟨g,cap,he,_,h1,h2,hO,hb⟩;rw [List.nil_append] at he hO h1;exact ⟨_,cap,he,h1,h2,hO,hb⟩

theorem oct_back (xs:List Int) (hx:∀ x∈xs,0<=x/\x<=255) (hE:getE xs=0):octN (getV xs)++xs.drop (getK xs)=xs:=by
 obtain ⟨h1,h2,h3⟩:=getE_ok hE
 match xs,hx,h1,h2,h3 with
 | [],_,h1,h2,_=>simp at h2;omega
 | x::ys,hx,h1,h2,h3 =>
  have bx:=hx x (by simp);rw [getK_cons] at h1 h2 h3 ⊢;rw [getV_cons,getK_cons] at h3 ⊢;rcases toldN_cases x with h | h | h | h
  ·rw [h.1] at h1;simp at h1
  ·rw [h.1] at h3 ⊢;have e:valN x (ys.take ((1:Int).toNat-1))=x:=by simp [valN];omega
   rw [e,octN,sizeN_1 (by omega) (by omega)];simp
  ·rw [h.1] at h2 h3 ⊢
   match ys,hx,h2,h3 with
   | [],_,h2,_=>simp at h2
   | y::zs,hx,_,h3 =>
    have by_:=hx y (by simp);have e:valN x ((y::zs).take ((2:Int).toNat-1))=(x % 64)*256+y:=by simp [valN]
    rw [e] at h3 ⊢;rw [octN,h3];simp;omega
  rw [h.1] at h2 h3 ⊢
  match ys,hx,h2,h3 with
  | [],_,h2,_=>simp at h2
  | [_],_,h2,_=>simp at h2
  | [_,_],_,h2,_=>simp at h2
  | a::b::c::zs,hx,_,h3 =>
   have ba:=hx a (by simp);have bb:=hx b (by simp);have bc:=hx c (by simp);have e:valN x ((a::b::c::zs).take ((4:Int).toNat-1))=(((x % 64)*256+a)*256+b)*256+c:=by simp [valN]
   rw [e] at h3 ⊢;rw [octN,h3];simp;omega

/- VaApp:
  Octets appended to a row of the call's own, whatever the slice that holds them (nil, empty or not).
-/
theorem octN_le (m:Int):(octN m).length<=4:=by
 have:=octN_length m;rcases sizeN_cases m with h | h | h | h<;>rw [h.1] at this<;>omega
theorem octN_bytes (m:Int):∀ y∈octN m,0<=y/\y<=255:=by
 intro y hy;unfold octN at hy;rcases sizeN_cases m with h | h | h | h
 ·rw [h.1] at hy;simp at hy
 ·rw [h.1] at hy;simp at hy;omega
 ·rw [h.1] at hy;simp at hy;omega
 rw [h.1] at hy;simp at hy;omega
/- VaAny:
  What varint.Get and varint.Put answer, error or none, in one contract each; with and without the bounds of the capacity.
-/
def gotM (xs:List Int):Int:=if getE xs=0 then getV xs else 0
def gotR (xs:List Int):List Int:=if getE xs=0 then xs.drop (getK xs) else []
/- WiBase:
  Plain contracts of package wire's small functions (width, read, roomy, lay) and of PutNum, for every argument that they can get.
-/
def widthK (k:Int):Nat:=if k<1 then 1 else if 4<k then 4 else k.toNat

theorem widthK_le (k:Int):1<=widthK k/\widthK k<=4:=by
 unfold widthK;by_cases h:k<1
 ·rw [if_pos h];omega
 rw [if_neg h];by_cases h4:4<k
 ·rw [if_pos h4];omega
 rw [if_neg h4];omega

theorem width_any (k:Int) (w:World):Calls prog 286 #[.int .i64 k] w fun e w'=>e=.returned (.int .i64 (widthK k:Nat))/\w=w':=by
 by_cases h:k<1
 ·have e:((widthK k:Nat):Int)=1:=by unfold widthK;rw [if_pos h];rfl
  rw [e];clear e
  go_enter func286,ntmps286
  go_wp2
  go_ret
  exact ⟨rfl,rfl⟩
 by_cases h4:4<k
 ·have e:((widthK k:Nat):Int)=4:=by unfold widthK;rw [if_neg h,if_pos h4];rfl
  rw [e];clear e
  go_enter func286,ntmps286
  go_wp2
  all_goals (go_ret;exact ⟨rfl,rfl⟩)
 have e:((widthK k:Nat):Int)=k:=by unfold widthK;rw [if_neg h,if_neg h4];omega
 rw [e];clear e;have hc:k=1\/k=2\/k=3\/k=4:=by omega
 clear h h4;rcases hc with rfl | rfl | rfl | rfl
 all_goals
  go_enter func286,ntmps286
  go_wp2
  go_ret
  exact ⟨rfl,rfl⟩

def numV (xs:List Int):Int:=xs.foldl (fun a y=>a*256+y) 0
theorem numV_snoc (y:Int) (l:List Int):numV (l++[y])=numV l*256+y:=by simp [numV,List.foldl_append]
theorem numV_step (ys:List Int) (j:Nat) (h:j<ys.length):numV (ys.take (j+1))=numV (ys.take j)*256+ys[j]:=by
 rw [List.take_succ_eq_append_getElem h,numV_snoc]
theorem numV_bd (ys:List Int) (h:∀ y∈ys,0<=y/\y<=255) (hl:ys.length<=4):0<=numV ys/\numV ys<=4294967295:=by
 match ys,h,hl with
 | [],_,_=>simp only [numV,List.foldl_nil];omega
 | [a],h,_=>have ha:=h a (by simp);simp only [numV,List.foldl_nil,List.foldl_cons];omega
 | [a,b],h,_=>have ha:=h a (by simp);have hb:=h b (by simp);simp only [numV,List.foldl_nil,List.foldl_cons];omega
 | [a,b,c],h,_=>have ha:=h a (by simp);have hb:=h b (by simp);have hc:=h c (by simp);simp only [numV,List.foldl_nil,List.foldl_cons];omega
 | [a,b,c,d],h,_=>have ha:=h a (by simp);have hb:=h b (by simp);have hc:=h c (by simp);have hd:=h d (by simp);simp only [numV,List.foldl_nil,List.foldl_cons];omega
 | _::_::_::_::_::_,_,hl=>simp at hl

/- WiPut:
  Contracts of wire.roomy, wire.lay, wire.PutNum and wire.PutFlag, for every slice of octets and every number.
-/
def numOct (n:Int) (k:Nat):List Int:=(List.range k).map fun i=>n / (2:Int) ^ (8*(k-1-i)) % 256
theorem numOct_length (n:Int) (k:Nat):(numOct n k).length=k:=by simp [numOct]
theorem numOct_bytes (n:Int) (k:Nat):∀ y∈numOct n k,0<=y/\y<=255:=by
 intro y hy;simp only [numOct,List.mem_map] at hy;obtain ⟨i,_,rfl⟩:=hy;omega
theorem numOct_get (n:Int) (k j:Nat) (h:j<k):(numOct n k).take (j+1)=(numOct n k).take j++[n / (2:Int) ^ (8*(k-1-j)) % 256]:=by
 rw [List.take_succ_eq_append_getElem (by rw [numOct_length];exact h)];simp [numOct]

theorem roomy_any (A:Option Addr) (n c B k:Nat) (xs:List Int) (w:World) (hO:Oct w B A n xs) (hB:B<=w.heap.size) (hn:n<=70368744177664) (hk:k<=4) :
  Calls prog 288 #[.slice A n c,.int .i64 k] w (OwnSl w w.heap.size xs):=by
 have hmk:=make_row n k k rfl (by omega);obtain ⟨W1,hcp,how,hbw,hsz1⟩:=copy_row A n c B k xs w hO hB (by unfold maxLen;omega);have HL:=Lib.hid hO.1;have HOW:=Lib.hid how;clear hO how
 go_enter func288,ntmps288
 go_wp2
 go_ret
 exact ⟨_,rfl,by rw [HL.out];exact HOW.out,hbw,by omega⟩

theorem lay_any (v:Value) (k base:Nat) (xs:List Int) (m:Int) (w0 w:World) (how:w.ownsRow base 5 1 v xs.length (xs.map (Value.int .u8))) (hbel:Below base w0 w) (hbase:base<=w.heap.size) (hn:xs.length<=35184372088832) (hk:k<=4) :
    Calls prog 287 #[v,.int .i64 m,.int .i64 k] w (OwnSl w0 base (xs++numOct m k)):=by
  have HOW:=Lib.hid how;clear how;have HL:=Lib.hid (numOct_length m k)
  go_enter func287,ntmps287
  go_wp2
  go_loopw [0,9] (fun u i w'=>∃ j:Nat,j<=k/\i=.int .i64 j/\Hid (w'.ownsRow base 5 1 u (xs.length+j) ((xs++(numOct m k).take j).map (Value.int .u8)))/\Below base w0 w'/\base<=w'.heap.size) (fun _ i _=>k-(intOf i).toNat)
  case atStart=>exact ⟨0,Nat.zero_le _,rfl,Lib.hid (by simpa using HOW.out),hbel,hbase⟩
  case round =>
    obtain ⟨j,hj,rfl,H1,hb1,hs1⟩:=hrel;by_cases hlt:j<k
    · have HN:=Lib.hid (numOct_get m k j hlt)
      have HT:Hid ((xs++(numOct m k).take j).length=xs.length+j):=by
        show _=_;rw [List.length_append,List.length_take,HL.out];omega
      go_wp2_with (at_builtin
                   refine wpList_append_oct _ rfl (.tmp 12) (.tmp 21) rfl rfl base _ (xs++(numOct m k).take j) [m / (2:Int) ^ (8*(k-1-j)) % 256] (some ⟨wr.heap.size,0,none⟩) 1 1 (wr.heap.size+1) rfl rfl ?hown ?hO ?hb ?hbase ?_
                   case hown=>rw [HT.out];exact H1.out.alloc _
                   case hO=>exact Oct.new wr [m / (2:Int) ^ (8*(k-1-j)) % 256] (by intro y hy;simp only [List.mem_cons,List.not_mem_nil,or_false] at hy;omega)
                   case hb=>rw [HT.out];omega
                   case hbase=>simp;omega
                   intro v4 w4 hj4;have hb4:=joined_below (H1.out.alloc _) hj4 (hb1.alloc hs1 _) (by simp;omega);have h4:=hj4.1;rw [List.append_assoc,<-HN.out,HT.out] at h4;have H4:=Lib.hid h4;clear h4 hj4)
      go_roundw
      case rel=>exact ⟨j+1,by omega,by go_num,H4,hb4.1,hb4.2⟩
      case measure=>simp [intOf];omega
    · obtain rfl:j=k:=by omega
      have e:(numOct m j).take j=numOct m j:=by
        conv=>lhs;arg 1;rw [<-HL.out]
        rw [List.take_length]
      rw [e] at H1;clear e
      go_wp2
      go_ret
      exact ⟨_,rfl,by rw [List.length_append,HL.out];exact H1.out,hb1,hs1⟩

theorem putNum_any (A:Option Addr) (n c B:Nat) (xs:List Int) (m k:Int) (w:World) (hO:Oct w B A n xs) (hB:B<=w.heap.size) (hn:n<=35184372088832) :
  Calls prog 249 #[.slice A n c,.int .i64 m,.int .i64 k] w (PutSl w (xs++numOct m (widthK k))):=by
 have hk:=(widthK_le k).2;have HO:=Lib.hid hO;have HL:=Lib.hid hO.1;clear hO;obtain ⟨K,hK⟩:∃ K,widthK k=K:=⟨_,rfl⟩;have HK:=Lib.hid hK;rw [hK] at hk ⊢;clear hK
 go_enter func249,ntmps249
 go_wp2_with fail
 refine (width_any _ _).mono ?_;rw [HK.out];rintro e w' ⟨rfl,rfl⟩
 go_wp2_with fail
 refine (roomy_any A n c B K xs _ HO.out hB (by omega) hk).mono ?_;rintro e w1 ⟨v1,rfl,how1,hb1,hs1⟩;have HOW:=Lib.hid how1;clear how1
 go_wp2_with fail
 refine (lay_any v1 K w.heap.size xs m w _ HOW.out hb1 hs1 (by rw [HL.out];exact hn) hk).mono ?_;rintro e w2 ⟨v2,rfl,how2,hb2,hs2⟩;have HOW2:=Lib.hid how2;clear how2
 go_wp2
 go_ret
 have hy:∀ y∈xs++numOct m K,0<=y/\y<=255:=fun y hy=>by
  rcases List.mem_append.1 hy with h | h
  ·exact HO.out.2.1 y h
  exact numOct_bytes m K y h
 obtain ⟨A3,c3,rfl,h1,h2,h3⟩:=own_sl HOW2.out hy;exact ⟨A3,_,c3,rfl,h1,h2,h3,hb2⟩

def flagOct (b:Bool):List Int:=[if b then 1 else 0]

theorem putFlag_any (A:Option Addr) (n c B:Nat) (xs:List Int) (b:Bool) (w:World) (hO:Oct w B A n xs) (hB:B<=w.heap.size) (hn:n<=35184372088832) :
  Calls prog 248 #[.slice A n c,.bool b] w (PutSl w (xs++flagOct b)):=by
 have HO:=Lib.hid hO;clear hO;cases b
 ·go_enter func248,ntmps248
  go_wp2_with fail
  refine (putNum_any A n c B xs 0 1 _ HO.out hB hn).mono ?_;rintro e w1 ⟨A1,n1,c1,rfl,h1,h2,h3,hb⟩;have H3:=Lib.hid h3;clear h3
  go_wp2
  go_ret
  exact ⟨A1,n1,c1,rfl,h1,h2,H3.out,hb⟩
 go_enter func248,ntmps248
 go_wp2_with fail
 refine (putNum_any A n c B xs 1 1 _ HO.out hB hn).mono ?_;rintro e w1 ⟨A1,n1,c1,rfl,h1,h2,h3,hb⟩;have H3:=Lib.hid h3;clear h3
 go_wp2
 go_ret
 exact ⟨A1,n1,c1,rfl,h1,h2,H3.out,hb⟩
/- WiGet:
  Contracts of wire.GetNum, wire.GetFlag and wire.GetBytes, for every slice of octets.
-/
def GotInt (w:World) (B:Nat) (m:Int) (rs:List Int) (er:Int) (e:Ending) (w':World):Prop :=
 ∃ A n c,e=.returned (.tuple #[.int .i64 m,.slice A n c,.int .i64 er])/\n<=c/\c<=maxLen/\Oct w' B A n rs/\Bw w w'
def GotFlag (w:World) (B:Nat) (b:Bool) (rs:List Int) (er:Int) (e:Ending) (w':World):Prop :=
 ∃ A n c,e=.returned (.tuple #[.bool b,.slice A n c,.int .i64 er])/\n<=c/\c<=maxLen/\Oct w' B A n rs/\Bw w w'
def GotTwo (w:World) (B:Nat) (ps rs:List Int) (er:Int) (e:Ending) (w':World):Prop :=
 ∃ A1 n1 c1 A n c,e=.returned (.tuple #[.slice A1 n1 c1,.slice A n c,.int .i64 er])/\n1<=c1/\c1<=maxLen/\n<=c/\c<=maxLen/\Oct w' B A1 n1 ps/\Oct w' B A n rs/\Bw w w'

def numE (xs:List Int) (k:Int):Int:=if xs.length<widthK k then 1 else 0
def numM (xs:List Int) (k:Int):Int:=if xs.length<widthK k then 0 else numV (xs.take (widthK k))
def numR (xs:List Int) (k:Int):List Int:=if xs.length<widthK k then [] else xs.drop (widthK k)

def flagE (xs:List Int):Int:=if xs.length=0 then 1 else if 1<xs.headD 0 then 2 else 0
def flagB (xs:List Int):Bool:=xs.headD 0 == 1
def flagR (xs:List Int):List Int:=if flagE xs=0 then xs.drop 1 else []

def bytesE (xs:List Int):Int:=if getE xs≠0 then getE xs else if 1048576<getV xs then 4 else if ((gotR xs).length:Int)<getV xs then 1 else 0
def bytesP (xs:List Int):List Int:=if bytesE xs=0 then (gotR xs).take (getV xs).toNat else []
def bytesR (xs:List Int):List Int:=if bytesE xs=0 then (gotR xs).drop (getV xs).toNat else []

theorem getV_nonneg (xs:List Int) (hx:∀ x∈xs,0<=x/\x<=255):0<=getV xs:=by
 unfold getV;exact (valN_bd _ _ (fun y hy=>hx y (List.mem_of_mem_tail (List.mem_of_mem_take hy))) (by rw [List.length_take];have:=getK_le xs;omega)).1

/- WiCat:
  Contracts of slices.Grow (of nil) and slices.Concat (of three slices of octets), which the program takes from Go's library, and of wire.PutBytes.
-/
set_option maxRecDepth 20000 in
theorem grow_nil (n:Nat) (m:Int) (hm:m=n) (w:World) (hn:n<=70368744177664) :
  Calls prog 289 #[.slice none 0 0,.int .i64 m] w (OwnSl w w.heap.size []):=by
 subst hm;obtain ⟨i0,hi0,hz0,hz1,hz2⟩:=info_parts info5;by_cases h0:n=0
 ·subst h0
  go_enter func289,ntmps289
  go_wp2
  go_ret
  exact ⟨_,rfl,⟨rfl,.inl ⟨rfl,rfl⟩⟩,Below.refl _ _,Nat.le_refl _⟩
 have hr:=Lib.run_append_nil_zeros (P:=prog) w 26 3 26 5 i0 _ .i64 .i64 Tryz.underlying26 Tryz.underlying3 hi0 hz0 n (by omega) (by omega) (by omega) (by rw [hz2];omega);have hG:=grownCap_ge w n 0 5;have hG2:=grownCap_le_maxLen w n 0 5 (by unfold maxLen;omega);generalize grownCap w n 0 5=G at *;have HR:=Lib.hid hr;have hpos:0<n:=by omega
 have hG3:G<=9223372036854775807:=hG2;clear hr hG2
 go_enter func289,ntmps289
 go_wp2_with (at_builtin;refine Lib.wpList_append_run _ rfl _ _ _ _ rfl _ _ rfl rfl _ _ HR.out ?_)
 go_ret
 refine ⟨_,rfl,⟨rfl,.inr ⟨w.heap.size,G,_,rfl,Nat.le_refl _,heap_alloc_new w.drew _,Nat.zero_le _,hG3,?_,rfl⟩⟩,((Below.refl _ _).drew).alloc Lr _,by simp⟩;rw [Array.size_append,size_zeroCells,size_zeroCells];simp;omega

def CatSum (n1 n2 n3:Nat) (s i:Value):Prop :=
 (i=.int .i64 0/\s=.int .i64 0)\/(i=.int .i64 1/\s=.int .i64 n1)\/(i=.int .i64 2/\s=.int .i64 ((n1:Int)+n2))\/(i=.int .i64 3/\s=.int .i64 ((n1:Int)+n2+n3))

def CatRow (w:World) (x1 x2 x3:List Int) (v i:Value) (w':World):Prop :=
  Bw w w'/\w.heap.size<=w'.heap.size /\
  ((i=.int .i64 0/\w'.ownsRow w.heap.size 5 1 v ([]:List Int).length (([]:List Int).map (Value.int .u8))) \/
   (i=.int .i64 1/\w'.ownsRow w.heap.size 5 1 v x1.length (x1.map (Value.int .u8))) \/
   (i=.int .i64 2/\w'.ownsRow w.heap.size 5 1 v (x1++x2).length ((x1++x2).map (Value.int .u8))) \/
   (i=.int .i64 3/\w'.ownsRow w.heap.size 5 1 v (x1++x2++x3).length ((x1++x2++x3).map (Value.int .u8))))

theorem concat_three (b n1 n2 n3 c1 c2 c3 B:Nat) (A1 A2 A3:Option Addr) (x1 x2 x3:List Int) (w:World)
    (h1:Oct w B A1 n1 x1) (h2:Oct w B A2 n2 x2) (h3:Oct w B A3 n3 x3) (hB:B<=w.heap.size) (hb:b<w.heap.size)
    (e1:w.cell? ⟨b,0,none⟩=some (.slice A1 n1 c1)) (e2:w.cell? ⟨b,1,none⟩=some (.slice A2 n2 c2)) (e3:w.cell? ⟨b,2,none⟩=some (.slice A3 n3 c3))
    (hn:n1+n2+n3<=70368744177664) :
    Calls prog 250 #[.slice (some ⟨b,0,none⟩) 3 3] w (OwnSl w w.heap.size (x1++x2++x3)):=by
  have H1:=Lib.hid h1;have H2:=Lib.hid h2;have H3:=Lib.hid h3;have L1:=Lib.hid h1.1;have L2:=Lib.hid h2.1;have L3:=Lib.hid h3.1;have E1:=Lib.hid e1;have E2:=Lib.hid e2;have E3:=Lib.hid e3;clear h1 h2 h3 e1 e2 e3
  go_enter func250,ntmps250
  go_wp2
  go_loop [3,11] (fun s i=>CatSum n1 n2 n3 s i) (fun _ i=>3-(intOf i).toNat)
  case atStart=>exact .inl ⟨rfl,rfl⟩
  case round =>
    rcases hrel with ⟨rfl,rfl⟩ | ⟨rfl,rfl⟩ | ⟨rfl,rfl⟩ | ⟨rfl,rfl⟩
    · have e:=E1.out
      go_wp2
      go_round
      case rel=>exact .inr (.inl ⟨rfl,rfl⟩)
      case measure=>simp [intOf]
    · have e:=E2.out
      go_wp2
      go_round
      case rel=>exact .inr (.inr (.inl ⟨rfl,rfl⟩))
      case measure=>simp [intOf]
    · have e:=E3.out
      go_wp2
      go_round
      case rel=>exact .inr (.inr (.inr ⟨rfl,rfl⟩))
      case measure=>simp [intOf]
    · go_wp2_with fail
      refine (grow_nil (n1+n2+n3) _ (by omega) _ hn).mono ?_;rintro e w1 ⟨v1,rfl,how1,hb1,hs1⟩;have HOW1:=Lib.hid how1;clear how1
      go_wp2_with fail
      go_loopw [6,27] (fun v i w'=>CatRow w x1 x2 x3 v i w') (fun _ i _=>3-(intOf i).toNat)
      case atStart=>exact ⟨hb1,hs1,.inl ⟨rfl,HOW1.out⟩⟩
      case round =>
        rcases hrel with ⟨hb2,hs2,⟨rfl,how2⟩ | ⟨rfl,how2⟩ | ⟨rfl,how2⟩ | ⟨rfl,how2⟩⟩
        · have HOW2:=Lib.hid how2
          have e:=(hb2.cell (p:=⟨b,0,none⟩) hb).trans E1.out;clear how2
          go_wp2_with (at_builtin
                       refine wpList_append_oct _ rfl (.tmp 31) (.tmp 32) rfl rfl w.heap.size _ [] x1 A1 n1 c1 B rfl rfl ?hown ?hO ?hb ?hbase ?_
                       case hown=>exact HOW2.out
                       case hO=>exact H1.out.below (hb2.mono hB)
                       case hb=>simp;omega
                       case hbase=>exact hs2
                       intro v4 w4 hj4;have hb4:=joined_below HOW2.out hj4 hb2 hs2;have H4:=Lib.hid hj4.1;clear hj4)
          go_roundw
          case rel =>
            have h4:=H4.out;rw [<-List.length_append] at h4;exact ⟨hb4.1,hb4.2,.inr (.inl ⟨rfl,h4⟩)⟩
          case measure=>simp [intOf]
        · have HOW2:=Lib.hid how2
          have e:=(hb2.cell (p:=⟨b,1,none⟩) hb).trans E2.out;clear how2
          go_wp2_with (at_builtin
                       refine wpList_append_oct _ rfl (.tmp 31) (.tmp 32) rfl rfl w.heap.size _ x1 x2 A2 n2 c2 B rfl rfl ?hown ?hO ?hb ?hbase ?_
                       case hown=>exact HOW2.out
                       case hO=>exact H2.out.below (hb2.mono hB)
                       case hb=>simp [L1.out];omega
                       case hbase=>exact hs2
                       intro v4 w4 hj4;have hb4:=joined_below HOW2.out hj4 hb2 hs2;have H4:=Lib.hid hj4.1;clear hj4)
          go_roundw
          case rel =>
            have h4:=H4.out;rw [<-List.length_append] at h4;exact ⟨hb4.1,hb4.2,.inr (.inr (.inl ⟨rfl,h4⟩))⟩
          case measure=>simp [intOf]
        · have HOW2:=Lib.hid how2
          have e:=(hb2.cell (p:=⟨b,2,none⟩) hb).trans E3.out;clear how2
          go_wp2_with (at_builtin
                       refine wpList_append_oct _ rfl (.tmp 31) (.tmp 32) rfl rfl w.heap.size _ (x1++x2) x3 A3 n3 c3 B rfl rfl ?hown ?hO ?hb ?hbase ?_
                       case hown=>exact HOW2.out
                       case hO=>exact H3.out.below (hb2.mono hB)
                       case hb=>simp [L1.out,L2.out];omega
                       case hbase=>exact hs2
                       intro v4 w4 hj4;have hb4:=joined_below HOW2.out hj4 hb2 hs2;have H4:=Lib.hid hj4.1;clear hj4)
          go_roundw
          case rel =>
            have h4:=H4.out;rw [<-List.length_append] at h4;exact ⟨hb4.1,hb4.2,.inr (.inr (.inr ⟨rfl,h4⟩))⟩
          case measure=>simp [intOf]
        · have HOW2:=Lib.hid how2
          clear how2
          go_wp2
          go_ret
          exact ⟨_,rfl,HOW2.out,hb2,hs2⟩

def bytesOct (vs:List Int):List Int:=if 1048576<vs.length then [] else octN vs.length++vs

theorem new_three (w:World) (u0 u1 u2:Value) (T:TypeId) :
  (w.alloc (.cells #[u0,u1,u2] T)).cell? ⟨w.heap.size,0,none⟩=some u0/\(w.alloc (.cells #[u0,u1,u2] T)).cell? ⟨w.heap.size,1,none⟩=some u1/\(w.alloc (.cells #[u0,u1,u2] T)).cell? ⟨w.heap.size,2,none⟩=some u2:=by
 have h:=fun j=>cell_of_row (w.alloc (.cells #[u0,u1,u2] T)) w.heap.size j #[u0,u1,u2] T (0,0) (heap_alloc_new w _);refine ⟨?_,?_,?_⟩
 ·rw [h 0];rfl
 ·rw [h 1];rfl
 rw [h 2];rfl

theorem putBytes_any (A A2:Option Addr) (n c n2 c2 B:Nat) (xs vs:List Int) (w:World) (hO:Oct w B A n xs) (hV:Oct w B A2 n2 vs) (hB:B<=w.heap.size) (hnc:n<=c) (hcm:c<=maxLen) (hn:n<=35184372088832) :
  Calls prog 202 #[.slice A n c,.slice A2 n2 c2] w (PutSl w (xs++bytesOct vs)):=by
 have HO:=Lib.hid hO;have HV:=Lib.hid hV;have L2:=Lib.hid hV.1;clear hO hV;by_cases hbig:1048576<n2
 ·have e:bytesOct vs=[]:=by unfold bytesOct;rw [L2.out,if_pos hbig]
  rw [e,List.append_nil];clear e
  go_enter func202,ntmps202
  go_wp2
  go_ret
  exact ⟨A,n,c,rfl,hnc,hcm,HO.out.more hB,Below.refl _ _⟩
 have E:Hid (bytesOct vs=octN n2++vs):=by show _=_;unfold bytesOct;rw [L2.out,if_neg hbig]
 have hL4:=octN_le (n2:Int);obtain ⟨L,hL⟩:∃ L,(octN (n2:Int)).length=L:=⟨_,rfl⟩;rw [hL] at hL4;have HL:=Lib.hid hL;clear hL
 go_enter func202,ntmps202
 go_wp2_with fail
 refine (put_new (n2:Int) _).mono ?_;rw [HL.out];rintro e w1 ⟨A1,c1,rfl,hLc,hc1,hO1,hb1⟩;have HO1:=Lib.hid hO1;clear hO1;have k1:=hb1.size
 go_wp2_with fail
 obtain ⟨f0,f1,f2⟩:=new_three w1 (.slice A n c) (.slice A1 L c1) (.slice A2 n2 c2) 26;have ba:Below w1.heap.size w1 (w1.alloc (.cells #[.slice A n c,.slice A1 L c1,.slice A2 n2 c2] 26)):=(Below.refl _ _).alloc Lr _;refine (concat_three w1.heap.size n L n2 c c1 c2 w1.heap.size A A1 A2 xs (octN n2) vs _ ((HO.out.below (hb1.mono hB)).more (by omega) |>.below ba) (HO1.out.below ba) ((HV.out.below (hb1.mono hB)).more (by omega) |>.below ba) (by simp) (by simp) f0 f1 f2 (by omega)).mono ?_;clear f0 f1 f2;rintro e w2 ⟨v2,rfl,how2,hb2,hs2⟩;have HOW2:=Lib.hid how2;clear how2
 go_wp2
 go_ret
 rw [E.out,<-List.append_assoc];have hy:∀ y∈xs++octN n2++vs,0<=y/\y<=255:=fun y hy=>by
  rcases List.mem_append.1 hy with h | h
  ·rcases List.mem_append.1 h with h | h
   ·exact HO.out.2.1 y h
   exact octN_bytes _ y h
  exact HV.out.2.1 y h
 obtain ⟨A3,c3,rfl,g1,g2,g3⟩:=own_sl HOW2.out hy;exact ⟨A3,_,c3,rfl,g1,g2,g3,hb1.trans ((ba.trans (hb2.mono (by simp))).mono k1)⟩
/- WiNums:
  Contracts of wire.PutNums and wire.GetNums, for every list of numbers and every slice of octets.
-/
def numsOct (ls:List Int):List Int:=ls.flatMap fun n=>numOct n 4
theorem numsOct_length (ls:List Int):(numsOct ls).length=4*ls.length:=by
 induction ls with
 | nil=>rfl
 | cons x l ih =>
  have e:numsOct (x::l)=numOct x 4++numsOct l:=rfl;rw [e,List.length_append,numOct_length,ih,List.length_cons];omega
theorem numsOct_bytes (ls:List Int):∀ y∈numsOct ls,0<=y/\y<=255:=by
 intro y hy;unfold numsOct at hy;rw [List.mem_flatMap] at hy;obtain ⟨n,_,h⟩:=hy;exact numOct_bytes n 4 y h
theorem numsOct_step (ls:List Int) (j:Nat) (h:j<ls.length):numsOct (ls.take (j+1))=numsOct (ls.take j)++numOct ls[j] 4:=by
 unfold numsOct;rw [List.take_succ_eq_append_getElem h,List.flatMap_append,List.flatMap_cons,List.flatMap_nil,List.append_nil]

theorem putNums_any (A A2:Option Addr) (n c n2 c2 B:Nat) (xs ls:List Int) (w:World) (hO:Oct w B A n xs) (hV:Nums w B A2 n2 ls) (hB:B<=w.heap.size) (hnc:n<=c) (hcm:c<=maxLen) (hn:n<=35184372088832) :
  Calls prog 336 #[.slice A n c,.slice A2 n2 c2] w (PutSl w (xs++bytesOct (numsOct ls))):=by
 have HO:=Lib.hid hO;have HV:=Lib.hid hV;have L2:=Lib.hid hV.1;clear hO hV;by_cases hbig:262144<n2
 ·have e:bytesOct (numsOct ls)=[]:=by unfold bytesOct;rw [numsOct_length,L2.out,if_pos (by omega)]
  rw [e,List.append_nil];clear e
  go_enter func336,ntmps336
  go_wp2
  go_ret
  exact ⟨A,n,c,rfl,hnc,hcm,HO.out.more hB,Below.refl _ _⟩
 have hmk:=make_room (4*n2) (4*(n2:Int)) (by omega) (by omega);have HOW:=Lib.hid (room_own (4*n2) (by unfold maxLen;omega) w);have ba:Below w.heap.size w (w.alloc (.cells (zeros (4*n2)).toArray 5)):=(Below.refl _ _).alloc Lr _;generalize (zeros (4*n2)).toArray=zz at *
 go_enter func336,ntmps336
 go_wp2_with fail
 clear hmk
 go_loopw [5,18] (fun u i w'=>∃ j:Nat,j<=n2/\i=.int .i64 j/\Hid (w'.ownsRow w.heap.size 5 1 u (numsOct (ls.take j)).length ((numsOct (ls.take j)).map (Value.int .u8)))/\Bw w w'/\w.heap.size<=w'.heap.size) (fun _ i _=>n2-(intOf i).toNat)
 case atStart=>exact ⟨0,Nat.zero_le _,rfl,Lib.hid (by simpa [numsOct] using HOW.out),ba,by simp⟩
 case round =>
  obtain ⟨j,hj,rfl,H1,hb1,hs1⟩:=hrel;have HT:Hid ((numsOct (ls.take j)).length=4*j):=by
   show _=_;rw [numsOct_length,List.length_take,L2.out];omega
  by_cases hlt:j<n2
  ·have hjl:j<ls.length:=by rw [L2.out];omega
   obtain ⟨b,o,rfl,hbB,hc⟩:=HV.out.2 (by omega);have hcell:=(hb1.cell (p:=⟨b,o+j,none⟩) (by show b<w.heap.size;omega)).trans (hc j ls[j] (List.getElem?_eq_getElem hjl));have HS:=Lib.hid (numsOct_step ls j hjl);clear hc;generalize ls[j]=y at *
   go_wp2_with fail
   refine (lay_any _ 4 w.heap.size _ y w _ H1.out hb1 hs1 (by rw [HT.out];omega) Lr).mono ?_;rw [<-HS.out];rintro e w2 ⟨v2,rfl,how2,hb2,hs2⟩;have H2:=Lib.hid how2;clear how2
   go_wp2_with fail
   go_roundw
   case rel=>exact ⟨j+1,by omega,by go_num,H2,hb2,hs2⟩
   case measure=>simp [intOf];omega
  obtain rfl:j=n2:=by omega
  have e:ls.take j=ls:=by rw [<-L2.out,List.take_length]
  rw [e] at H1 HT;clear e;obtain ⟨A3,c3,rfl,h1,h2,h3⟩:=own_sl H1.out (numsOct_bytes ls);have H3:=Lib.hid h3;clear h3
  go_wp2_with fail
  refine (putBytes_any A A3 n c _ c3 _ xs (numsOct ls) _ ((HO.out.below (hb1.mono hB)).more (by omega)) H3.out Lr hnc hcm hn).mono ?_;rintro e w4 ⟨A4,n4,c4,rfl,g1,g2,g3,hb4⟩;have H4:=Lib.hid g3;clear g3
  go_wp2
  go_ret
  exact ⟨A4,n4,c4,rfl,g1,g2,H4.out,hb1.trans (hb4.mono hs1)⟩

def fours (ps:List Int):List Int:=(List.range (ps.length / 4)).map fun i=>numV ((ps.drop (4*i)).take 4)
theorem fours_length (ps:List Int):(fours ps).length=ps.length / 4:=by simp [fours]
theorem fours_step (ps:List Int) (j:Nat) (h:j<ps.length / 4):(fours ps).take (j+1)=(fours ps).take j++[numV ((ps.drop (4*j)).take 4)]:=by
 rw [List.take_succ_eq_append_getElem (by rw [fours_length];exact h)];simp [fours]

def numsE (xs:List Int):Int:=if bytesE xs≠0 then bytesE xs else if (bytesP xs).length % 4≠0 then 2 else 0
def numsL (xs:List Int):List Int:=if numsE xs=0 then fours (bytesP xs) else []
def numsR (xs:List Int):List Int:=if numsE xs=0 then bytesR xs else []

def GotNums (w:World) (B:Nat) (ls rs:List Int) (er:Int) (e:Ending) (w':World):Prop :=
 ∃ A1 n1 c1 A n c,e=.returned (.tuple #[.slice A1 n1 c1,.slice A n c,.int .i64 er])/\n1<=c1/\c1<=maxLen/\n<=c/\c<=maxLen/\Nums w' w'.heap.size A1 n1 ls/\Oct w' B A n rs/\Bw w w'

def GotNumsF (w:World) (B:Nat) (ls rs:List Int) (er:Int) (e:Ending) (w':World):Prop :=
 ∃ A1 n1 c1 A n c,e=.returned (.tuple #[.slice A1 n1 c1,.slice A n c,.int .i64 er])/\n1<=c1/\c1<=maxLen/\n<=c/\c<=maxLen/\Nums w' w'.heap.size A1 n1 ls/\Oct w' B A n rs/\Bw w w'/\∀ p,A1=some p->w.heap.size<=p.block
theorem GotNumsF.got {w w':World} {B:Nat} {ls rs:List Int} {er:Int} {e:Ending} (h:GotNumsF w B ls rs er e w'):GotNums w B ls rs er e w':=by
 obtain ⟨A1,n1,c1,A,n,c,h0,h1,h2,h3,h4,h5,h6,h7,_⟩:=h;exact ⟨A1,n1,c1,A,n,c,h0,h1,h2,h3,h4,h5,h6,h7⟩

theorem run_cut_four (A:Option Addr) (n c j:Nat) (h2:4*j+4<=c) (w:World) :
  (Instr.sliceAt 26 (.slice A n c) (some (.int .i64 (4*(j:Int)))) (some (.int .i64 (4*(j:Int)+4))) none).run prog w=.ok (.slice (cutA A (4*j) c) 4 (c-4*j)) w:=by
 have h:=run_cut_lh A n c (4*j) (4*j+4) (4*(j:Int)) (4*(j:Int)+4) (by omega) (by omega) (by omega) h2 w;rwa [show 4*j+4-4*j=4 from by omega] at h

theorem bytesP_le (xs:List Int) (hx:∀ x∈xs,0<=x/\x<=255):(bytesP xs).length<=1048576:=by
 unfold bytesP;by_cases h:bytesE xs=0
 ·rw [if_pos h,List.length_take];have:¬1048576<getV xs:=by
   intro h2;unfold bytesE at h;by_cases h3:getE xs=0
   ·rw [if_neg (by simpa using h3),if_pos h2] at h;simp at h
   rw [if_pos h3] at h;exact h3 h
  omega
 rw [if_neg h];simp

/- WiRow:
  Slices of numbers that came in, read as lists; small bounds.
-/
/- WiMath:
  Plain facts on the octets of layer 2: what is put is got, what is got was put, what is cut short is short.
-/
theorem bytesOct_small {vs:List Int} (h:vs.length<=1048576):bytesOct vs=octN vs.length++vs:=by unfold bytesOct;rw [if_neg (by omega)]
theorem numOct4 (n:Int):numOct n 4=[n / 16777216 % 256,n / 65536 % 256,n / 256 % 256,n % 256]:=by
 simp [numOct,List.range,List.range.loop]
theorem numV4 (a b c d:Int):numV [a,b,c,d]=((a*256+b)*256+c)*256+d:=by simp [numV]
theorem num_got (a b c d:Int) (ha:0<=a/\a<=255) (hb:0<=b/\b<=255) (hc:0<=c/\c<=255) (hd:0<=d/\d<=255):numOct (numV [a,b,c,d]) 4=[a,b,c,d]:=by
 rw [numV4,numOct4];congr 1
 ·omega
 congr 1
 ·omega
 congr 1
 ·omega
 congr 1;omega

theorem fours_cons (p ps:List Int) (hp:p.length=4):fours (p++ps)=numV p::fours ps:=by
 unfold fours;rw [List.length_append,hp,show (4+ps.length) / 4=ps.length / 4+1 from by omega,List.range_succ_eq_map,List.map_cons,List.map_map];congr 1
 ·rw [Nat.mul_zero,List.drop_zero,<-hp,List.take_left]
 refine List.map_congr_left fun i _=>?_;show numV (((p++ps).drop (4*(i+1))).take 4)=_;rw [show 4*(i+1)=p.length+4*i from by omega,List.drop_append,Nat.add_sub_cancel_left,List.drop_eq_nil_of_le (by omega),List.nil_append]
theorem fours_got:∀ (k:Nat) (ps:List Int),ps.length=4*k->(∀ p∈ps,0<=p/\p<=255)->numsOct (fours ps)=ps
 | 0,ps,hl,_=>by
  have e:ps=[]:=List.eq_nil_of_length_eq_zero (by omega);subst e;rfl
 | k+1,ps,hl,h=>by
  match ps,hl,h with
  | a::b::c::d::qs,hl,h =>
   have e:a::b::c::d::qs=[a,b,c,d]++qs:=rfl;have ih:=fours_got k qs (by simp at hl;omega) fun p hp=>h p (by simp [hp]);have e2:∀ x l,numsOct (x::l)=numOct x 4++numsOct l:=fun _ _=>rfl;rw [e,fours_cons _ _ rfl,e2,ih,num_got a b c d (h a (by simp)) (h b (by simp)) (h c (by simp)) (h d (by simp))]
  | [],hl,_=>simp at hl
  | [_],hl,_=>simp at hl;omega
  | [_,_],hl,_=>simp at hl;omega
  | [_,_,_],hl,_=>simp at hl;omega

theorem flag_put (b:Bool) (zs:List Int):flagE (flagOct b++zs)=0/\flagB (flagOct b++zs)=b/\flagR (flagOct b++zs)=zs:=by
 have he:flagE (flagOct b++zs)=0:=by cases b<;>simp [flagE,flagOct]
 refine ⟨he,by cases b<;>simp [flagB,flagOct],?_⟩;unfold flagR;rw [if_pos he];rfl

theorem bytes_got (xs:List Int) (hx:∀ x∈xs,0<=x/\x<=255) (hE:bytesE xs=0):bytesOct (bytesP xs)++bytesR xs=xs:=by
 have hg:getE xs=0:=by
  unfold bytesE at hE;split at hE
  ·contradiction
  rename_i h;simpa using h
 have hE':=hE;unfold bytesE at hE';rw [if_neg (by rw [hg];decide)] at hE';have hv0:=getV_nonneg xs hx;have hv1:getV xs<=1048576:=by
  by_cases h:1048576<getV xs
  ·rw [if_pos h] at hE';cases hE'
  omega
 rw [if_neg (by omega)] at hE';have hv2:getV xs<=((gotR xs).length:Int):=by
  by_cases h:((gotR xs).length:Int)<getV xs
  ·rw [if_pos h] at hE';cases hE'
  omega
 have hp:bytesP xs=(gotR xs).take (getV xs).toNat:=by unfold bytesP;rw [if_pos hE]
 have hr:bytesR xs=(gotR xs).drop (getV xs).toNat:=by unfold bytesR;rw [if_pos hE]
 have hlen:((bytesP xs).length:Int)=getV xs:=by
  rw [hp,List.length_take];omega
 have hgr:gotR xs=xs.drop (getK xs):=by unfold gotR;rw [if_pos hg]
 rw [bytesOct_small (by omega),hlen,List.append_assoc,hp,hr,List.take_append_drop,hgr,oct_back xs hx hg]

theorem bytesP_bytes (xs:List Int) (hx:∀ x∈xs,0<=x/\x<=255):∀ y∈bytesP xs,0<=y/\y<=255:=by
 intro y hy;unfold bytesP at hy;split at hy
 ·have h1:=List.mem_of_mem_take hy;unfold gotR at h1;split at h1
  ·exact hx y (List.mem_of_mem_drop h1)
  cases h1
 cases hy

theorem nums_got (xs:List Int) (hx:∀ x∈xs,0<=x/\x<=255) (hE:numsE xs=0):bytesE xs=0/\bytesOct (numsOct (numsL xs))++numsR xs=xs:=by
 have hb:bytesE xs=0:=by
  unfold numsE at hE;split at hE
  ·contradiction
  rename_i h;simpa using h
 have h4:(bytesP xs).length % 4=0:=by
  unfold numsE at hE;rw [if_neg (by rw [hb];decide)] at hE;by_cases h:(bytesP xs).length % 4=0
  ·exact h
  rw [if_pos h] at hE;cases hE
 refine ⟨hb,?_⟩;unfold numsL numsR;rw [if_pos hE,if_pos hE,fours_got ((bytesP xs).length / 4) _ (by omega) (bytesP_bytes xs hx),bytes_got xs hx hb]

theorem flag_got (xs:List Int) (hx:∀ x∈xs,0<=x/\x<=255) (hE:flagE xs=0):flagOct (flagB xs)++flagR xs=xs:=by
 match xs,hx,hE with
 | [],_,hE=>simp [flagE] at hE
 | x::l,hx,hE =>
  have h:=hx x (by simp);unfold flagR;rw [if_pos hE];unfold flagE at hE;simp at hE;have:x=0\/x=1:=by omega
  rcases this with rfl | rfl<;>simp [flagOct,flagB]
/- WiBits:
  The lowest bits of a number, as a remainder.
-/

/- CatTwo:
  Contracts of slices.Grow (of nil) and slices.Concat (of two slices of octets), which the program takes from Go's library.
-/
set_option maxRecDepth 20000 in
theorem grow_nil2 (n:Nat) (m:Int) (hm:m=n) (w:World) (hn:n<=70368744177664) :
  Calls prog 289 #[.slice none 0 0,.int .i64 m] w (OwnSl w w.heap.size []):=by
 subst hm;obtain ⟨i0,hi0,hz0,hz1,hz2⟩:=info_parts info5;by_cases h0:n=0
 ·subst h0
  go_enter func289,ntmps289
  go_wp2
  go_ret
  exact ⟨_,rfl,⟨rfl,.inl ⟨rfl,rfl⟩⟩,Below.refl _ _,Nat.le_refl _⟩
 have hr:=Lib.run_append_nil_zeros (P:=prog) w 26 3 26 5 i0 _ .i64 .i64 Tryz.underlying26 Tryz.underlying3 hi0 hz0 n (by omega) (by omega) (by omega) (by rw [hz2];omega);have hG:=grownCap_ge w n 0 5;have hG2:=grownCap_le_maxLen w n 0 5 (by unfold maxLen;omega);generalize grownCap w n 0 5=G at *;have HR:=Lib.hid hr;have hpos:0<n:=by omega
 have hG3:G<=9223372036854775807:=hG2;clear hr hG2
 go_enter func289,ntmps289
 go_wp2_with (at_builtin;refine Lib.wpList_append_run _ rfl _ _ _ _ rfl _ _ rfl rfl _ _ HR.out ?_)
 go_ret
 refine ⟨_,rfl,⟨rfl,.inr ⟨w.heap.size,G,_,rfl,Nat.le_refl _,heap_alloc_new w.drew _,Nat.zero_le _,hG3,?_,rfl⟩⟩,((Below.refl _ _).drew).alloc Lr _,by simp⟩;rw [Array.size_append,size_zeroCells,size_zeroCells];simp;omega

def CatSum2 (n1 n2:Nat) (s i:Value):Prop :=
 (i=.int .i64 0/\s=.int .i64 0)\/(i=.int .i64 1/\s=.int .i64 n1)\/(i=.int .i64 2/\s=.int .i64 ((n1:Int)+n2))
def CatRow2 (w:World) (x1 x2:List Int) (v i:Value) (w':World):Prop :=
  Bw w w'/\w.heap.size<=w'.heap.size /\
  ((i=.int .i64 0/\w'.ownsRow w.heap.size 5 1 v ([]:List Int).length (([]:List Int).map (Value.int .u8))) \/
   (i=.int .i64 1/\w'.ownsRow w.heap.size 5 1 v x1.length (x1.map (Value.int .u8))) \/
   (i=.int .i64 2/\w'.ownsRow w.heap.size 5 1 v (x1++x2).length ((x1++x2).map (Value.int .u8))))
theorem concat_two (b n1 n2 c1 c2 B:Nat) (A1 A2:Option Addr) (x1 x2:List Int) (w:World)
    (h1:Oct w B A1 n1 x1) (h2:Oct w B A2 n2 x2) (hB:B<=w.heap.size) (hb:b<w.heap.size)
    (e1:w.cell? ⟨b,0,none⟩=some (.slice A1 n1 c1)) (e2:w.cell? ⟨b,1,none⟩=some (.slice A2 n2 c2))
    (hn:n1+n2<=70368744177664) :
    Calls prog 250 #[.slice (some ⟨b,0,none⟩) 2 2] w (OwnSl w w.heap.size (x1++x2)):=by
  have H1:=Lib.hid h1;have H2:=Lib.hid h2;have L1:=Lib.hid h1.1;have L2:=Lib.hid h2.1;have E1:=Lib.hid e1;have E2:=Lib.hid e2;clear h1 h2 e1 e2
  go_enter func250,ntmps250
  go_wp2
  go_loop [3,11] (fun s i=>CatSum2 n1 n2 s i) (fun _ i=>2-(intOf i).toNat)
  case atStart=>exact .inl ⟨rfl,rfl⟩
  case round =>
    rcases hrel with ⟨rfl,rfl⟩ | ⟨rfl,rfl⟩ | ⟨rfl,rfl⟩
    · have e:=E1.out
      go_wp2
      go_round
      case rel=>exact .inr (.inl ⟨rfl,rfl⟩)
      case measure=>simp [intOf]
    · have e:=E2.out
      go_wp2
      go_round
      case rel=>exact .inr (.inr ⟨rfl,rfl⟩)
      case measure=>simp [intOf]
    · go_wp2_with fail
      refine (grow_nil2 (n1+n2) _ (by omega) _ hn).mono ?_;rintro e w1 ⟨v1,rfl,how1,hb1,hs1⟩;have HOW1:=Lib.hid how1;clear how1
      go_wp2_with fail
      go_loopw [6,27] (fun v i w'=>CatRow2 w x1 x2 v i w') (fun _ i _=>2-(intOf i).toNat)
      case atStart=>exact ⟨hb1,hs1,.inl ⟨rfl,HOW1.out⟩⟩
      case round =>
        rcases hrel with ⟨hb2,hs2,⟨rfl,how2⟩ | ⟨rfl,how2⟩ | ⟨rfl,how2⟩⟩
        · have HOW2:=Lib.hid how2
          have e:=(hb2.cell (p:=⟨b,0,none⟩) hb).trans E1.out;clear how2
          go_wp2_with (at_builtin
                       refine wpList_append_oct _ rfl (.tmp 31) (.tmp 32) rfl rfl w.heap.size _ [] x1 A1 n1 c1 B rfl rfl ?hown ?hO ?hb ?hbase ?_
                       case hown=>exact HOW2.out
                       case hO=>exact H1.out.below (hb2.mono hB)
                       case hb=>simp;omega
                       case hbase=>exact hs2
                       intro v4 w4 hj4;have hb4:=joined_below HOW2.out hj4 hb2 hs2;have H4:=Lib.hid hj4.1;clear hj4)
          go_roundw
          case rel =>
            have h4:=H4.out;rw [<-List.length_append] at h4;exact ⟨hb4.1,hb4.2,.inr (.inl ⟨rfl,h4⟩)⟩
          case measure=>simp [intOf]
        · have HOW2:=Lib.hid how2
          have e:=(hb2.cell (p:=⟨b,1,none⟩) hb).trans E2.out;clear how2
          go_wp2_with (at_builtin
                       refine wpList_append_oct _ rfl (.tmp 31) (.tmp 32) rfl rfl w.heap.size _ x1 x2 A2 n2 c2 B rfl rfl ?hown ?hO ?hb ?hbase ?_
                       case hown=>exact HOW2.out
                       case hO=>exact H2.out.below (hb2.mono hB)
                       case hb=>simp [L1.out];omega
                       case hbase=>exact hs2
                       intro v4 w4 hj4;have hb4:=joined_below HOW2.out hj4 hb2 hs2;have H4:=Lib.hid hj4.1;clear hj4)
          go_roundw
          case rel =>
            have h4:=H4.out;rw [<-List.length_append] at h4;exact ⟨hb4.1,hb4.2,.inr (.inr ⟨rfl,h4⟩)⟩
          case measure=>simp [intOf]
        · have HOW2:=Lib.hid how2
          clear how2
          go_wp2
          go_ret
          exact ⟨_,rfl,HOW2.out,hb2,hs2⟩
end Go.Proofs.YtjjdcnkbibkmkaaGreatDoor
