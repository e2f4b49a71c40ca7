/-
  KitV: Arith, VaBase, VaGet, VaGot, VaPut, VaOct, VaMore, VaApp, VaAny, WiBase, WiPut, WiGet, WiCat, WiNums, WiRow, WiMath, WiBits, CatTwo.
-/
import Derived.Test.YtognnnjdoemgfaaGreatDoorRows
import Derived.WalkKit
import Derived.ProofKit
import Derived.Laws.Bits128
import Derived.Laws.BytesArg
import Derived.Test.YtognnnjdoemgfaaGreatDoorKitA
import Derived.Deep.QuietTactic
import Derived.BigQuiet
import Derived.Deep.Draws
import Derived.Laws.OwnMore
import Derived.Laws.CopyOwn
import Derived.OwnWalk
import Derived.Laws.MakeOwn
import Derived.Maps.AppendAt
import Derived.Lib.AppendZeros
import Derived.Lib.Hide
namespace Go.Proofs.YtognnnjdoemgfaaGreatDoor
open Go.ChangeShapes Go.WideShapes Go.ChangeAt Go.RowKit
set_option linter.unusedVariables false

/- Arith:
  Bits as remainders; the order of octets as of strings.
-/
theorem and_low (n m:Int) (k:Nat) (hm:(BitVec.ofInt 64 m).toNat=2 ^ k-1) (hk:k≤62):bits .and .i64 n m=n % ((2 ^ k:Nat):Int):=by
 have key:(BitVec.ofInt 64 n &&& BitVec.ofInt 64 m).toNat=(n % ((2 ^ 64:Nat):Int)).toNat % 2 ^ k:=by
  rw [BitVec.toNat_and,BitVec.toNat_ofInt,hm,Nat.and_two_pow_sub_one_eq_mod]
 show IntKind.i64.wrap ((BitVec.ofInt 64 n &&& BitVec.ofInt 64 m).toNat:Nat)=_
 have hp:(2:Nat) ^ 64=2 ^ k*2 ^ (64-k):=by rw [←Nat.pow_add];congr 1;omega
 have hd:((2 ^ k:Nat):Int) ∣ ((2 ^ 64:Nat):Int):=⟨((2 ^ (64-k):Nat):Int),by rw [hp];rfl⟩
 have hle:(2:Nat) ^ k≤2 ^ 62:=Nat.pow_le_pow_right (by omega) hk
 have h0:(0:Int)≤n % ((2 ^ 64:Nat):Int):=Int.emod_nonneg _ (by decide)
 have e:(((n % ((2 ^ 64:Nat):Int)).toNat % 2 ^ k:Nat):Int)=n % ((2 ^ k:Nat):Int):=by
  rw [Int.natCast_emod,Int.toNat_of_nonneg h0,Int.emod_emod_of_dvd _ hd]
 rw [key,e]
 have hpos:(0:Int)<((2 ^ k:Nat):Int):=by have:=Nat.two_pow_pos k;omega
 have h1:=Int.emod_nonneg n (show ((2 ^ k:Nat):Int)≠0 from by omega)
 have h2:=Int.emod_lt_of_pos n hpos
 have h3:((2 ^ k:Nat):Int)≤4611686018427387904:=by
  have:(2:Nat) ^ 62=4611686018427387904:=by decide
  omega
 generalize n % ((2 ^ k:Nat):Int)=r at *
 rw [IntKind.wrap_i64]
 omega
theorem and_255 (n:Int):bits .and .i64 n 255=n % 256:=and_low n 255 8 (by decide) (by decide)
/- VaBase:
  Plain contracts of package varint's small functions (Size, told, marked), for every argument: what each returns, the world as it was.
-/
/-- How many octets a number has. -/
def sizeN (n:Int):Int:=if n<0∨1073741823<n then 0 else if n≤63 then 1 else if n≤16383 then 2 else 4
/-- How many octets a first octet tells. -/
def toldN (x:Int):Int:=if x<64 then 1 else if x<128 then 2 else if x<192 then 4 else 0

theorem sizeN_0 {n:Int} (h:n<0∨1073741823<n):sizeN n=0:=by unfold sizeN;rw [if_pos h]
theorem sizeN_1 {n:Int} (h:0≤n) (h1:n≤63):sizeN n=1:=by unfold sizeN;rw [if_neg (by omega),if_pos h1]
theorem sizeN_2 {n:Int} (h:63<n) (h1:n≤16383):sizeN n=2:=by unfold sizeN;rw [if_neg (by omega),if_neg (by omega),if_pos h1]
theorem sizeN_4 {n:Int} (h:16383<n) (h1:n≤1073741823):sizeN n=4:=by unfold sizeN;rw [if_neg (by omega),if_neg (by omega),if_neg (by omega)]
theorem toldN_1 {n:Int} (h:n<64):toldN n=1:=by unfold toldN;rw [if_pos h]
theorem toldN_2 {n:Int} (h:64≤n) (h1:n<128):toldN n=2:=by unfold toldN;rw [if_neg (by omega),if_pos h1]
theorem toldN_4 {n:Int} (h:128≤n) (h1:n<192):toldN n=4:=by unfold toldN;rw [if_neg (by omega),if_neg (by omega),if_pos h1]
theorem toldN_0 {n:Int} (h:192≤n):toldN n=0:=by unfold toldN;rw [if_neg (by omega),if_neg (by omega),if_neg (by omega)]

/-- The number that octets tell, the mark of the first one taken off. -/
def valN (x:Int) (ys:List Int):Int:=ys.foldl (fun a y=>a*256+y) (x % 64)
theorem valN_snoc (x y:Int) (l:List Int):valN x (l++[y])=valN x l*256+y:=by simp [valN,List.foldl_append]
theorem valN_step (x:Int) (ys:List Int) (j:Nat) (h:j<ys.length):valN x (ys.take (j+1))=valN x (ys.take j)*256+ys[j]:=by
 rw [List.take_succ_eq_append_getElem h,valN_snoc]
theorem valN_bd (x:Int) (ys:List Int) (h:∀ y∈ys,0≤y∧y≤255) (hl:ys.length≤3):0≤valN x ys∧valN x ys<1073741824:=by
 match ys,h,hl with
 | [],_,_=>simp only [valN,List.foldl_nil];omega
 | [a],h,_=>have ha:=h a (by simp);simp only [valN,List.foldl_nil,List.foldl_cons];omega
 | [a,b],h,_=>have ha:=h a (by simp);have hb:=h b (by simp);simp only [valN,List.foldl_nil,List.foldl_cons];omega
 | [a,b,c],h,_=>have ha:=h a (by simp);have hb:=h b (by simp);have hc:=h c (by simp);simp only [valN,List.foldl_nil,List.foldl_cons];omega
 | _::_::_::_::_,_,hl=>simp at hl

theorem size_any (n:Int) (w:World):Calls Tryz.prog 108 #[.int .i64 n] w fun e w'=>e=.returned (.int .i64 (sizeN n))∧w=w':=by
 by_cases h0:n<0
 ·go_enter Tryz.func108,Tryz.ntmps108
  go_wp2
  go_ret
  exact ⟨retInt (sizeN_0 (.inl h0)).symm,rfl⟩
 by_cases h1:1073741823<n
 ·go_enter Tryz.func108,Tryz.ntmps108
  go_wp2
  go_ret
  exact ⟨retInt (sizeN_0 (.inr h1)).symm,rfl⟩
 by_cases h2:n≤63
 ·go_enter Tryz.func108,Tryz.ntmps108
  go_wp2
  go_ret
  exact ⟨retInt (sizeN_1 (by omega) h2).symm,rfl⟩
 by_cases h3:n≤16383
 ·go_enter Tryz.func108,Tryz.ntmps108
  go_wp2
  go_ret
  exact ⟨retInt (sizeN_2 (by omega) h3).symm,rfl⟩
 go_enter Tryz.func108,Tryz.ntmps108
 go_wp2
 go_ret
 exact ⟨retInt (sizeN_4 (by omega) (by omega)).symm,rfl⟩

theorem told_any (n:Int) (w:World):Calls Tryz.prog 123 #[.int .u8 n] w fun e w'=>e=.returned (.int .i64 (toldN n))∧w=w':=by
 by_cases h0:n<64
 ·go_enter Tryz.func123,Tryz.ntmps123
  go_wp2
  go_ret
  exact ⟨retInt (toldN_1 h0).symm,rfl⟩
 by_cases h1:n<128
 ·go_enter Tryz.func123,Tryz.ntmps123
  go_wp2
  go_ret
  exact ⟨retInt (toldN_2 (by omega) h1).symm,rfl⟩
 by_cases h2:n<192
 ·go_enter Tryz.func123,Tryz.ntmps123
  go_wp2
  go_ret
  exact ⟨retInt (toldN_4 (by omega) h2).symm,rfl⟩
 go_enter Tryz.func123,Tryz.ntmps123
 go_wp2
 go_ret
 exact ⟨retInt (toldN_0 (by omega)).symm,rfl⟩

/-- What is added to a number of so many octets, so that the first one tells how many there are. -/
def markN (k:Int):Int:=if k=2 then 16384 else if k=4 then 2147483648 else 0

theorem marked_any (n k:Int) (w:World) (h0:0≤n) (h1:n≤1073741823) :
  Calls Tryz.prog 109 #[.int .i64 n,.int .i64 k] w fun e w'=>e=.returned (.int .u32 (n+markN k))∧w=w':=by
 by_cases h2:k=2
 ·subst h2
  go_enter Tryz.func109,Tryz.ntmps109
  go_wp2
  go_ret
  exact ⟨retInt (by simp [markN]),rfl⟩
 by_cases h3:k=4
 ·subst h3
  go_enter Tryz.func109,Tryz.ntmps109
  go_wp2
  go_ret
  exact ⟨retInt (by simp [markN]),rfl⟩
 go_enter Tryz.func109,Tryz.ntmps109
 go_wp2
 go_ret
 exact ⟨retInt (by simp [markN,h2,h3]),rfl⟩
/- VaGet:
  The contract of varint.Get, for every slice of octets.
-/
/-- The error of Get, the number and how many octets it has. -/
def getK (xs:List Int):Nat:=(toldN (xs.headD 192)).toNat
def getV (xs:List Int):Int:=valN (xs.headD 0) (xs.tail.take (getK xs-1))
def getE (xs:List Int):Int :=
 if xs.length=0 then 1 else if getK xs=0 then 2 else if xs.length<getK xs then 1 else if sizeN (getV xs)=getK xs then 0 else 2

theorem get_none (A:Option Addr) (c:Nat) (w:World) :
  Calls Tryz.prog 80 #[.slice A 0 c] w fun e w'=>e=.returned (.tuple #[.int .i64 0,.slice none 0 0,.int .i64 1])∧w=w':=by
 go_enter Tryz.func80,Tryz.ntmps80
 go_wp2
 go_ret3
 exact ⟨rfl,rfl⟩

theorem get_high (b o n c:Nat) (x:Int) (w:World) (hn:0<n) (hx:192≤x) (hc:w.cell? ⟨b,o,none⟩=some (.int .u8 x)) :
  Calls Tryz.prog 80 #[.slice (some ⟨b,o,none⟩) n c] w fun e w'=>e=.returned (.tuple #[.int .i64 0,.slice none 0 0,.int .i64 2])∧w=w':=by
 have h0:((n:Int) == 0)=false:=by simp;omega
 have h1:(0:Int)<(n:Int):=by omega
 have ht:toldN x=0:=toldN_0 hx
 go_enter Tryz.func80,Tryz.ntmps80
 go_wp2_with (go_at_call 123;refine (told_any _ _).mono ?_;rintro e w' ⟨rfl,rfl⟩)
 go_ret3
 exact ⟨rfl,rfl⟩

theorem get_short (b o n c k:Nat) (x:Int) (w:World) (hn:0<n) (ht:toldN x=k) (hk:n<k) (hc:w.cell? ⟨b,o,none⟩=some (.int .u8 x)) :
  Calls Tryz.prog 80 #[.slice (some ⟨b,o,none⟩) n c] w fun e w'=>e=.returned (.tuple #[.int .i64 0,.slice none 0 0,.int .i64 1])∧w=w':=by
 have h0:((n:Int) == 0)=false:=by simp;omega
 have h1:(0:Int)<(n:Int):=by omega
 have h2:((k:Int) == 0)=false:=by simp;omega
 go_enter Tryz.func80,Tryz.ntmps80
 go_wp2_with (go_at_call 123;refine (told_any _ _).mono ?_;rintro e w' ⟨rfl,rfl⟩)
 go_ret3
 exact ⟨rfl,rfl⟩

theorem get_ok (b o n c k:Nat) (x m:Int) (ys:List Int) (w:World) (ht:toldN x=k) (h1k:1≤k) (hk4:k≤4) (hk:k≤n) (hnc:n≤c) (hcm:c≤maxLen)
  (hx:0≤x) (hx2:x≤255)
  (hc:w.cell? ⟨b,o,none⟩=some (.int .u8 x)) (hy:∀ i y,ys[i]?=some y→w.cell? ⟨b,o+1+i,none⟩=some (.int .u8 y)) (hl:ys.length=k-1)
  (hyb:∀ y∈ys,0≤y∧y≤255)
  (hm:valN x ys=m) (hs:sizeN m=k) (hck:¬c=k) (hc1:¬c=1) :
  Calls Tryz.prog 80 #[.slice (some ⟨b,o,none⟩) n c] w fun e w'=>e=.returned (.tuple #[.int .i64 m,.slice (some ⟨b,o+k,none⟩) (n-k) (c-k),.int .i64 0])∧∃ d,w'=w.drewN d:=by
 have h0:((n:Int) == 0)=false:=by simp;omega
 have h1:(0:Int)<(n:Int):=by omega
 have h2:((k:Int) == 0)=false:=by simp;omega
 have h3:decide (n<k)=false:=by simp;omega
 unfold maxLen at hcm
 have Hm:=Lib.hid hm
 have Hs:=Lib.hid hs
 have Hy:=Lib.hid hy
 have Hyb:=Lib.hid hyb
 have Hl:=Lib.hid hl
 clear hm hs hy hyb hl
 go_enter Tryz.func80,Tryz.ntmps80
 go_wp2_with (go_at_call 123;refine (told_any _ _).mono ?_;rintro e w' ⟨rfl,rfl⟩)
 go_loop [6,31] (fun s i=>∃ j:Nat,j≤k-1∧i=.int .i64 j∧s=.int .i64 (valN x (ys.take j))) (fun _ i=>k-(intOf i).toNat)
 case atStart=>exact ⟨0,Nat.zero_le _,rfl,by simp [valN]⟩
 case round =>
  obtain ⟨j,hj,rfl,rfl⟩:=hrel
  by_cases hlt:j<k-1
  ·have hjl:j<ys.length:=by rw [Hl.out];omega
   have hcell:=Hy.out j ys[j] (List.getElem?_eq_getElem hjl)
   have hb:=Hyb.out ys[j] (List.getElem_mem hjl)
   have hv:=valN_bd x (ys.take j) (fun z hz=>Hyb.out z (List.mem_of_mem_take hz)) (by rw [List.length_take];omega)
   have HS:=Lib.hid (valN_step x ys j hjl)
   generalize ys[j]=y at *
   generalize hg:valN x (ys.take j)=v at *
   have Hg:=Lib.hid hg
   clear hg
   go_wp2
   go_round
   case rel=>exact ⟨j+1,by omega,by go_num,by rw [HS.out]⟩
   case measure=>simp [intOf];omega
  obtain rfl:j=k-1:=by omega
  have e:valN x (ys.take (k-1))=m:=by rw [←Hl.out,List.take_length];exact Hm.out
  have hs1:(sizeN m != (k:Int))=false:=by rw [Hs.out];simp
  rw [e]
  clear e
  go_wp2_with (go_at_call 108;refine (size_any _ _).mono ?_;rintro e w' ⟨rfl,rfl⟩)
  go_quiet (fail)
  go_wp2
  go_ret3
  exact ⟨rfl,_,rfl⟩

theorem get_okk (b o k:Nat) (x m:Int) (ys:List Int) (w:World) (ht:toldN x=k) (h1k:1≤k) (hk4:k≤4) 
  (hx:0≤x) (hx2:x≤255)
  (hc:w.cell? ⟨b,o,none⟩=some (.int .u8 x)) (hy:∀ i y,ys[i]?=some y→w.cell? ⟨b,o+1+i,none⟩=some (.int .u8 y)) (hl:ys.length=k-1)
  (hyb:∀ y∈ys,0≤y∧y≤255)
  (hm:valN x ys=m) (hs:sizeN m=k) (hc1:¬k=1) :
  Calls Tryz.prog 80 #[.slice (some ⟨b,o,none⟩) k k] w fun e w'=>e=.returned (.tuple #[.int .i64 m,.slice (some ⟨b,o,none⟩) 0 0,.int .i64 0])∧∃ d,w'=w.drewN d:=by
 have h0:((k:Int) == 0)=false:=by simp;omega
 have h1:(0:Int)<(k:Int):=by omega
 have Hm:=Lib.hid hm
 have Hs:=Lib.hid hs
 have Hy:=Lib.hid hy
 have Hyb:=Lib.hid hyb
 have Hl:=Lib.hid hl
 clear hm hs hy hyb hl
 go_enter Tryz.func80,Tryz.ntmps80
 go_wp2_with (go_at_call 123;refine (told_any _ _).mono ?_;rintro e w' ⟨rfl,rfl⟩)
 go_loop [6,31] (fun s i=>∃ j:Nat,j≤k-1∧i=.int .i64 j∧s=.int .i64 (valN x (ys.take j))) (fun _ i=>k-(intOf i).toNat)
 case atStart=>exact ⟨0,Nat.zero_le _,rfl,by simp [valN]⟩
 case round =>
  obtain ⟨j,hj,rfl,rfl⟩:=hrel
  by_cases hlt:j<k-1
  ·have hjl:j<ys.length:=by rw [Hl.out];omega
   have hcell:=Hy.out j ys[j] (List.getElem?_eq_getElem hjl)
   have hb:=Hyb.out ys[j] (List.getElem_mem hjl)
   have hv:=valN_bd x (ys.take j) (fun z hz=>Hyb.out z (List.mem_of_mem_take hz)) (by rw [List.length_take];omega)
   have HS:=Lib.hid (valN_step x ys j hjl)
   generalize ys[j]=y at *
   generalize hg:valN x (ys.take j)=v at *
   have Hg:=Lib.hid hg
   clear hg
   go_wp2
   go_round
   case rel=>exact ⟨j+1,by omega,by go_num,by rw [HS.out]⟩
   case measure=>simp [intOf];omega
  obtain rfl:j=k-1:=by omega
  have e:valN x (ys.take (k-1))=m:=by rw [←Hl.out,List.take_length];exact Hm.out
  have hs1:(sizeN m != (k:Int))=false:=by rw [Hs.out];simp
  rw [e]
  clear e
  go_wp2_with (go_at_call 108;refine (size_any _ _).mono ?_;rintro e w' ⟨rfl,rfl⟩)
  go_quiet (fail)
  go_wp2
  go_ret3
  exact ⟨rfl,_,rfl⟩

theorem get_ok1 (b o:Nat) (x:Int) (w:World) (hx:0≤x) (hx2:x≤63) (hc:w.cell? ⟨b,o,none⟩=some (.int .u8 x)) :
  Calls Tryz.prog 80 #[.slice (some ⟨b,o,none⟩) 1 1] w fun e w'=>e=.returned (.tuple #[.int .i64 x,.slice (some ⟨b,o,none⟩) 0 0,.int .i64 0])∧∃ d,w'=w.drewN d:=by
 have hs1:(sizeN x != 1)=false:=by rw [sizeN_1 hx hx2];rfl
 have ht:toldN x=1:=toldN_1 (by omega)
 have he:Hid (x % 64=x):=by show x % 64=x;omega
 go_enter Tryz.func80,Tryz.ntmps80
 go_wp2_with (go_at_call 123;refine (told_any _ _).mono ?_;rintro e w' ⟨rfl,rfl⟩)
 rw [he.out]
 go_loop [6,31] (fun s i=>i=.int .i64 0∧s=.int .i64 x) (fun _ i=>0)
 case atStart=>exact ⟨rfl,rfl⟩
 case round =>
  obtain ⟨rfl,rfl⟩:=hrel
  go_wp2_with (go_at_call 108;refine (size_any _ _).mono ?_;rintro e w' ⟨rfl,rfl⟩)
  go_quiet (fail)
  go_wp2
  go_ret3
  exact ⟨rfl,_,rfl⟩

theorem get_form (b o n c k:Nat) (x m:Int) (ys:List Int) (w:World) (ht:toldN x=k) (h1k:1≤k) (hk4:k≤4) (hk:k≤n) (hnc:n≤c) (hcm:c≤maxLen)
  (hx:0≤x) (hx2:x≤255)
  (hc:w.cell? ⟨b,o,none⟩=some (.int .u8 x)) (hy:∀ i y,ys[i]?=some y→w.cell? ⟨b,o+1+i,none⟩=some (.int .u8 y)) (hl:ys.length=k-1)
  (hyb:∀ y∈ys,0≤y∧y≤255)
  (hm:valN x ys=m) (hs:¬sizeN m=k) (hc1:¬c=1) :
  Calls Tryz.prog 80 #[.slice (some ⟨b,o,none⟩) n c] w fun e w'=>e=.returned (.tuple #[.int .i64 0,.slice none 0 0,.int .i64 2])∧w=w':=by
 have h0:((n:Int) == 0)=false:=by simp;omega
 have h1:(0:Int)<(n:Int):=by omega
 have h2:((k:Int) == 0)=false:=by simp;omega
 have h3:decide (n<k)=false:=by simp;omega
 unfold maxLen at hcm
 have Hm:=Lib.hid hm
 have Hs:=Lib.hid hs
 have Hy:=Lib.hid hy
 have Hyb:=Lib.hid hyb
 have Hl:=Lib.hid hl
 clear hm hs hy hyb hl
 go_enter Tryz.func80,Tryz.ntmps80
 go_wp2_with (go_at_call 123;refine (told_any _ _).mono ?_;rintro e w' ⟨rfl,rfl⟩)
 go_loop [6,31] (fun s i=>∃ j:Nat,j≤k-1∧i=.int .i64 j∧s=.int .i64 (valN x (ys.take j))) (fun _ i=>k-(intOf i).toNat)
 case atStart=>exact ⟨0,Nat.zero_le _,rfl,by simp [valN]⟩
 case round =>
  obtain ⟨j,hj,rfl,rfl⟩:=hrel
  by_cases hlt:j<k-1
  ·have hjl:j<ys.length:=by rw [Hl.out];omega
   have hcell:=Hy.out j ys[j] (List.getElem?_eq_getElem hjl)
   have hb:=Hyb.out ys[j] (List.getElem_mem hjl)
   have hv:=valN_bd x (ys.take j) (fun z hz=>Hyb.out z (List.mem_of_mem_take hz)) (by rw [List.length_take];omega)
   have HS:=Lib.hid (valN_step x ys j hjl)
   generalize ys[j]=y at *
   generalize hg:valN x (ys.take j)=v at *
   have Hg:=Lib.hid hg
   clear hg
   go_wp2
   go_round
   case rel=>exact ⟨j+1,by omega,by go_num,by rw [HS.out]⟩
   case measure=>simp [intOf];omega
  obtain rfl:j=k-1:=by omega
  have e:valN x (ys.take (k-1))=m:=by rw [←Hl.out,List.take_length];exact Hm.out
  have hs1:(sizeN m != (k:Int))=true:=by simpa using Hs.out
  rw [e]
  clear e
  go_wp2_with (go_at_call 108;refine (size_any _ _).mono ?_;rintro e w' ⟨rfl,rfl⟩)
  go_ret3
  exact ⟨rfl,rfl⟩
/- VaGot:
  The contract of varint.Get in two halves, for every slice of octets: where it answers an error, and where it answers a number and the rest.
-/
theorem toldN_cases (x:Int):toldN x=0∧192≤x∨toldN x=1∧x<64∨toldN x=2∧64≤x∧x<128∨toldN x=4∧128≤x∧x<192:=by
 rcases Int.lt_or_le x 64 with h | h
 ·exact .inr (.inl ⟨toldN_1 h,h⟩)
 rcases Int.lt_or_le x 128 with h1 | h1
 ·exact .inr (.inr (.inl ⟨toldN_2 h h1,h,h1⟩))
 rcases Int.lt_or_le x 192 with h2 | h2
 ·exact .inr (.inr (.inr ⟨toldN_4 h1 h2,h1,h2⟩))
 exact .inl ⟨toldN_0 h2,h2⟩

theorem getK_cons (x:Int) (ys:List Int):getK (x::ys)=(toldN x).toNat:=rfl
theorem getV_cons (x:Int) (ys:List Int):getV (x::ys)=valN x (ys.take (getK (x::ys)-1)):=rfl
theorem getK_le (xs:List Int):getK xs≤4:=by
 unfold getK
 rcases toldN_cases (xs.headD 192) with h | h | h | h<;>rw [h.1]<;>decide

theorem get_bad (A:Option Addr) (n c B:Nat) (xs:List Int) (w:World) (hO:Oct w B A n xs) (hnc:n≤c) (hcm:c≤maxLen) (hE:getE xs≠0) :
  Calls Tryz.prog 80 #[.slice A n c] w fun e w'=>e=.returned (.tuple #[.int .i64 0,.slice none 0 0,.int .i64 (getE xs)])∧w=w':=by
 match xs,hO,hE with
 | [],hO,_ =>
  have hn:n=0:=by have:=hO.1;simpa using this.symm
  subst hn
  exact get_none A c w
 | x::ys,hO,hE =>
  have hn:ys.length+1=n:=by simpa using hO.1
  obtain ⟨b,o,rfl,hB,hx,hx2,hc,hy,hyb⟩:=hO.tail
  have h0:¬(x::ys).length=0:=by simp
  by_cases hk0:getK (x::ys)=0
  ·have e:getE (x::ys)=2:=by unfold getE;rw [if_neg h0,if_pos hk0]
   rw [e]
   have h192:192≤x:=by
    rw [getK_cons] at hk0
    rcases toldN_cases x with h | h | h | h
    ·exact h.2
    ·rw [h.1] at hk0;simp at hk0
    ·rw [h.1] at hk0;simp at hk0
    rw [h.1] at hk0;simp at hk0
   exact get_high b o n c x w (by omega) h192 hc
  have ht:toldN x=(getK (x::ys):Nat):=by
   rw [getK_cons]
   rcases toldN_cases x with h | h | h | h<;>rw [h.1]<;>rfl
  have hk4:=getK_le (x::ys)
  by_cases hs:(x::ys).length<getK (x::ys)
  ·have e:getE (x::ys)=1:=by unfold getE;rw [if_neg h0,if_neg hk0,if_pos hs]
   rw [e]
   exact get_short b o n c _ x w (by omega) ht (by rw [←hn];simpa using hs) hc
  by_cases hz:sizeN (getV (x::ys))=getK (x::ys)
  ·exact absurd (by unfold getE;rw [if_neg h0,if_neg hk0,if_neg hs,if_pos hz]) hE
  have e:getE (x::ys)=2:=by unfold getE;rw [if_neg h0,if_neg hk0,if_neg hs,if_neg hz]
  rw [e]
  have hs':getK (x::ys)≤ys.length+1:=by simpa using hs
  refine get_form b o n c (getK (x::ys)) x (getV (x::ys)) (ys.take (getK (x::ys)-1)) w ht (by omega) hk4 (by omega) hnc hcm hx hx2 hc
   (fun i y hi=>hy i y ?_) (by rw [List.length_take];omega) (fun y hm=>hyb y (List.mem_of_mem_take hm)) (getV_cons x ys).symm hz ?_
  ·rw [List.getElem?_take] at hi
   split at hi
   ·exact hi
   cases hi
  intro h1
  rcases toldN_cases x with h | h | h | h
  ·rw [getK_cons,h.1] at hk0;simp at hk0
  ·apply hz
   have e1:getK (x::ys)=1:=by rw [getK_cons,h.1];rfl
   rw [getV_cons,e1]
   simp only [valN,List.take_zero,List.foldl_nil,Nat.sub_self]
   rw [show x % 64=x from by omega,sizeN_1 hx (by omega)];rfl
  ·rw [getK_cons,h.1] at hs';simp at hs';omega
  rw [getK_cons,h.1] at hs';simp at hs';omega

/-- What Get answers where octets begin with a number: the number, and a slice that reads as the rest. -/
def GotWell (w:World) (B n c:Nat) (xs:List Int) (e:Ending) (w':World):Prop :=
 ∃ A',e=.returned (.tuple #[.int .i64 (getV xs),.slice A' (n-getK xs) (c-getK xs),.int .i64 0])∧Oct w B A' (n-getK xs) (xs.drop (getK xs))∧∃ d,w'=w.drewN d

theorem getE_ok {xs:List Int} (h:getE xs=0):1≤getK xs∧getK xs≤xs.length∧sizeN (getV xs)=getK xs:=by
 unfold getE at h
 by_cases h0:xs.length=0
 ·rw [if_pos h0] at h;simp at h
 rw [if_neg h0] at h
 by_cases h1:getK xs=0
 ·rw [if_pos h1] at h;simp at h
 rw [if_neg h1] at h
 by_cases h2:xs.length<getK xs
 ·rw [if_pos h2] at h;simp at h
 rw [if_neg h2] at h
 by_cases h3:sizeN (getV xs)=getK xs
 ·exact ⟨by omega,by omega,h3⟩
 rw [if_neg h3] at h;simp at h

theorem get_good (A:Option Addr) (n c B:Nat) (xs:List Int) (w:World) (hO:Oct w B A n xs) (hnc:n≤c) (hcm:c≤maxLen) (hE:getE xs=0) :
  Calls Tryz.prog 80 #[.slice A n c] w (GotWell w B n c xs):=by
 obtain ⟨h1,h2,h3⟩:=getE_ok hE
 match xs,hO,h1,h2,h3 with
 | [],_,h1,h2,_=>simp at h2;omega
 | x::ys,hO,h1,h2,h3 =>
  have hn:ys.length+1=n:=by simpa using hO.1
  have h2':getK (x::ys)≤ys.length+1:=by simpa using h2
  obtain ⟨b,o,rfl,hB,hx,hx2,hc,hy,hyb⟩:=hO.tail
  have ht:toldN x=(getK (x::ys):Nat):=by
   rw [getK_cons]
   rcases toldN_cases x with h | h | h | h<;>rw [h.1]<;>rfl
  have hk4:=getK_le (x::ys)
  have hy':∀ i y,(ys.take (getK (x::ys)-1))[i]?=some y→w.cell? ⟨b,o+1+i,none⟩=some (.int .u8 y):=fun i y hi=>hy i y (by
   rw [List.getElem?_take] at hi
   split at hi
   ·exact hi
   cases hi)
  have hl':(ys.take (getK (x::ys)-1)).length=getK (x::ys)-1:=by rw [List.length_take];omega
  have hyb':∀ y∈ys.take (getK (x::ys)-1),0≤y∧y≤255:=fun y hm=>hyb y (List.mem_of_mem_take hm)
  by_cases hc1:c=1
  ·have hk1:getK (x::ys)=1:=by omega
   have hn1:n=1:=by omega
   subst hc1 hn1
   have hx63:x≤63:=by
    rw [hk1] at ht
    rcases toldN_cases x with h | h | h | h
    ·rw [h.1] at ht;simp at ht
    ·omega
    ·rw [h.1] at ht;simp at ht
    rw [h.1] at ht;simp at ht
   refine (get_ok1 b o x w hx hx63 hc).mono fun e w' ⟨he,hw⟩=>?_
   have hv:getV (x::ys)=x:=by
    rw [getV_cons,hk1]
    simp only [valN,List.take_zero,List.foldl_nil,Nat.sub_self]
    omega
   refine ⟨_,?_,hO.cut _ (by omega) o (fun h=>by omega),hw⟩
   rw [he,hv,hk1]
  by_cases hck:c=getK (x::ys)
  ·have hnk:n=getK (x::ys):=by omega
   subst hck
   rw [hnk] at hO ⊢
   refine (get_okk b o (getK (x::ys)) x (getV (x::ys)) _ w ht h1 hk4 hx hx2 hc hy' hl' hyb' (getV_cons x ys).symm h3 hc1).mono fun e w' ⟨he,hw⟩=>?_
   refine ⟨_,?_,hO.cut _ (by omega) o (fun h=>by omega),hw⟩
   rw [he,Nat.sub_self]
  refine (get_ok b o n c (getK (x::ys)) x (getV (x::ys)) _ w ht h1 hk4 (by omega) hnc hcm hx hx2 hc hy' hl' hyb' (getV_cons x ys).symm h3 hck hc1).mono fun e w' ⟨he,hw⟩=>?_
  exact ⟨_,he,hO.cut _ (by omega) _ (fun _=>rfl),hw⟩
/- VaPut:
  The contract of varint.Put, for every slice of octets and every number.
-/
theorem put_none (v:Value) (m:Int) (w:World) (hm:sizeN m=0):Calls Tryz.prog 67 #[v,.int .i64 m] w fun e w'=>e=.returned v∧w=w':=by
 go_enter Tryz.func67,Tryz.ntmps67
 go_wp2_with (go_at_call 108;refine (size_any _ _).mono ?_;rintro e w' ⟨rfl,rfl⟩)
 go_ret
 exact ⟨rfl,rfl⟩

/-- The octets of a number. -/
def octN (m:Int):List Int :=
 if sizeN m=4 then [128+m / 16777216,m / 65536 % 256,m / 256 % 256,m % 256] else if sizeN m=2 then [64+m / 256,m % 256] else if sizeN m=1 then [m] else []

/-- What Put answers of a number that has octets: a new row that reads as ys; nothing that was there has changed. -/
def PutWell (w:World) (ys:List Int) (e:Ending) (w':World):Prop :=
 ∃ g cap,e=.returned (.slice (some ⟨g,0,none⟩) ys.length cap)∧w.heap.size≤g∧ys.length≤cap∧cap≤maxLen∧Oct w' w'.heap.size (some ⟨g,0,none⟩) ys.length ys∧Below w.heap.size w w'

theorem well_of {w0 w:World} {g k cap:Nat} {l:List Value} {ys:List Int} (h:w.ownsRow w0.heap.size 5 1 (.slice (some ⟨g,0,none⟩) k cap) k l) (hk:ys.length=k) (hl:l=ys.map (Value.int .u8)) (hy:∀ y∈ys,0≤y∧y≤255)
  (hb:Below w0.heap.size w0 w):PutWell w0 ys (.returned (.slice (some ⟨g,0,none⟩) k cap)) w:=by
 subst hl hk
 obtain ⟨hg0,hg1⟩:=h.lt g rfl
 have hc:=h.cells (g:=g) rfl
 refine ⟨g,cap,rfl,hg0,?_,?_,⟨rfl,hy,fun _=>⟨g,0,rfl,hg1,fun i x hx=>?_⟩⟩,hb⟩
 ·rcases h.2 with ⟨hv,_⟩ | ⟨g',cap',cur,hv,_,_,h1,_⟩
  ·simp at hv
  simp at hv;omega
 ·rcases h.2 with ⟨hv,_⟩ | ⟨g',cap',cur,hv,_,_,_,h2,_⟩
  ·simp at hv
  simp at hv;omega
 have:=hc i (.int .u8 x) (by rw [List.getElem?_map,hx];rfl)
 rwa [Addr.add_lit] at this

theorem put4 (A:Option Addr) (n c B:Nat) (xs:List Int) (m:Int) (w:World) (hO:Oct w B A n xs) (hB:B≤w.heap.size) (hn:n≤70368744177664) (h0:16383<m) (h1:m≤1073741823) :
    Calls Tryz.prog 67 #[.slice A n c,.int .i64 m] w (PutWell w (xs++octN m)):=by
  obtain ⟨i0,hi0,hz0,hz1,hz2⟩:=info_parts info5
  have hs:sizeN m=4:=sizeN_4 h0 h1
  have hmk:=make_row n 4 4 rfl (by omega)
  obtain ⟨W1,hcp,how,hbw,hsz1⟩:=copy_row A n c B 4 xs w hO hB (by unfold maxLen;omega)
  have HO:=Lib.hid hO
  have HOW:=Lib.hid how
  have HN:Hid (octN m=[128+m / 16777216,m / 65536 % 256,m / 256 % 256,m % 256]):=by show octN m=_;unfold octN;rw [hs];rfl
  have HM:Hid (markN 4=2147483648):=by show markN 4=_;rfl
  clear hO how
  go_enter Tryz.func67,Tryz.ntmps67
  go_wp2_with (first
    | (go_at_call 108;refine (size_any _ _).mono ?_;rintro e w' ⟨rfl,rfl⟩)
    | (go_at_call 109;refine (marked_any _ _ _ (by omega) (by omega)).mono ?_;rintro e w' ⟨rfl,rfl⟩)
    | (at_builtin
       refine wpList_append_fits _ rfl (.tmp 33) (.tmp 40) 23 rfl w.heap.size 5 i0 1 Tryz.underlying23 hi0 hz1 w.heap.size (n) (n+4) (xs.map (Value.int .u8)) rfl (HOW.out.alloc _) ⟨W1.heap.size,0,none⟩ 2 2 [Value.int .u8 ((m+markN 4) / 16777216 % 256),Value.int .u8 ((m+markN 4) / 65536 % 256)] rfl rfl (new_cells W1 _) (by simp [Value.oneCell']) (by omega) ?_
       intro W2 how2 hg2
       have H2:=Lib.hid how2
       clear how2)
    | (at_builtin
       refine wpList_append_fits _ rfl (.tmp 42) (.tmp 46) 23 rfl w.heap.size 5 i0 1 Tryz.underlying23 hi0 hz1 w.heap.size (n+2) (n+4) (xs.map (Value.int .u8)++[Value.int .u8 ((m+markN 4) / 16777216 % 256),Value.int .u8 ((m+markN 4) / 65536 % 256)]) rfl (H2.out.alloc _) ⟨W2.heap.size,0,none⟩ 1 1 [Value.int .u8 ((m+markN 4) / 256 % 256)] rfl rfl (new_cells W2 _) (by simp [Value.oneCell']) (by omega) ?_
       intro W3 how3 hg3
       have H3:=Lib.hid how3
       clear how3)
    | (at_builtin
       refine wpList_append_fits _ rfl (.tmp 48) (.tmp 51) 23 rfl w.heap.size 5 i0 1 Tryz.underlying23 hi0 hz1 w.heap.size (n+2+1) (n+4) (xs.map (Value.int .u8)++[Value.int .u8 ((m+markN 4) / 16777216 % 256),Value.int .u8 ((m+markN 4) / 65536 % 256)]++[Value.int .u8 ((m+markN 4) / 256 % 256)]) rfl (H3.out.alloc _) ⟨W3.heap.size,0,none⟩ 1 1 [Value.int .u8 ((m+markN 4) % 256)] rfl rfl (new_cells W3 _) (by simp [Value.oneCell']) (by omega) ?_
       intro W4 how4 hg4
       have H4:=Lib.hid how4
       clear how4))
  go_ret
  have b2:=below_app hbw (by omega) (Nat.le_refl _) hg2
  have b3:=below_app b2.1 b2.2 (Nat.le_refl _) hg3
  have b4:=below_app b3.1 b3.2 (Nat.le_refl _) hg4
  refine well_of H4.out ?_ ?_ ?_ b4.1
  · rw [HN.out,List.length_append,HO.out.1];rfl
  · rw [HN.out,HM.out,List.map_append]
    simp only [List.append_assoc,List.cons_append,List.nil_append,List.map_cons,List.map_nil]
    rw [show (m+2147483648) / 16777216 % 256=128+m / 16777216 from by omega,show (m+2147483648) / 65536 % 256=m / 65536 % 256 from by omega,show (m+2147483648) / 256 % 256=m / 256 % 256 from by omega,show (m+2147483648) % 256=m % 256 from by omega]
  · rw [HN.out]
    intro y hy
    rw [List.mem_append] at hy
    rcases hy with hy | hy
    · exact HO.out.2.1 y hy
    · simp only [List.mem_cons,List.not_mem_nil,or_false] at hy
      omega

theorem put2 (A:Option Addr) (n c B:Nat) (xs:List Int) (m:Int) (w:World) (hO:Oct w B A n xs) (hB:B≤w.heap.size) (hn:n≤70368744177664) (h0:63<m) (h1:m≤16383) :
    Calls Tryz.prog 67 #[.slice A n c,.int .i64 m] w (PutWell w (xs++octN m)):=by
  obtain ⟨i0,hi0,hz0,hz1,hz2⟩:=info_parts info5
  have hs:sizeN m=2:=sizeN_2 h0 h1
  have hmk:=make_row n 2 2 rfl (by omega)
  obtain ⟨W1,hcp,how,hbw,hsz1⟩:=copy_row A n c B 2 xs w hO hB (by unfold maxLen;omega)
  have HO:=Lib.hid hO
  have HOW:=Lib.hid how
  have HN:Hid (octN m=[64+m / 256,m % 256]):=by show octN m=_;unfold octN;rw [hs];rfl
  have HM:Hid (markN 2=16384):=by show markN 2=_;rfl
  clear hO how
  go_enter Tryz.func67,Tryz.ntmps67
  go_wp2_with (first
    | (go_at_call 108;refine (size_any _ _).mono ?_;rintro e w' ⟨rfl,rfl⟩)
    | (go_at_call 109;refine (marked_any _ _ _ (by omega) (by omega)).mono ?_;rintro e w' ⟨rfl,rfl⟩)
    | (at_builtin
       refine wpList_append_fits _ rfl (.tmp 42) (.tmp 46) 23 rfl w.heap.size 5 i0 1 Tryz.underlying23 hi0 hz1 w.heap.size (n) (n+2) (xs.map (Value.int .u8)) rfl (HOW.out.alloc _) ⟨W1.heap.size,0,none⟩ 1 1 [Value.int .u8 ((m+markN 2) / 256 % 256)] rfl rfl (new_cells W1 _) (by simp [Value.oneCell']) (by omega) ?_
       intro W2 how2 hg2
       have H2:=Lib.hid how2
       clear how2)
    | (at_builtin
       refine wpList_append_fits _ rfl (.tmp 48) (.tmp 51) 23 rfl w.heap.size 5 i0 1 Tryz.underlying23 hi0 hz1 w.heap.size (n+1) (n+2) (xs.map (Value.int .u8)++[Value.int .u8 ((m+markN 2) / 256 % 256)]) rfl (H2.out.alloc _) ⟨W2.heap.size,0,none⟩ 1 1 [Value.int .u8 ((m+markN 2) % 256)] rfl rfl (new_cells W2 _) (by simp [Value.oneCell']) (by omega) ?_
       intro W3 how3 hg3
       have H3:=Lib.hid how3
       clear how3))
  go_ret
  have b2:=below_app hbw (by omega) (Nat.le_refl _) hg2
  have b3:=below_app b2.1 b2.2 (Nat.le_refl _) hg3
  refine well_of H3.out ?_ ?_ ?_ b3.1
  · rw [HN.out,List.length_append,HO.out.1];rfl
  · rw [HN.out,HM.out,List.map_append]
    simp only [List.append_assoc,List.cons_append,List.nil_append,List.map_cons,List.map_nil]
    rw [show (m+16384) / 256 % 256=64+m / 256 from by omega,show (m+16384) % 256=m % 256 from by omega]
  · rw [HN.out]
    intro y hy
    rw [List.mem_append] at hy
    rcases hy with hy | hy
    · exact HO.out.2.1 y hy
    · simp only [List.mem_cons,List.not_mem_nil,or_false] at hy
      omega

theorem put1 (A:Option Addr) (n c B:Nat) (xs:List Int) (m:Int) (w:World) (hO:Oct w B A n xs) (hB:B≤w.heap.size) (hn:n≤70368744177664) (h0:0≤m) (h1:m≤63) :
    Calls Tryz.prog 67 #[.slice A n c,.int .i64 m] w (PutWell w (xs++octN m)):=by
  obtain ⟨i0,hi0,hz0,hz1,hz2⟩:=info_parts info5
  have hs:sizeN m=1:=sizeN_1 h0 h1
  have hmk:=make_row n 1 1 rfl (by omega)
  obtain ⟨W1,hcp,how,hbw,hsz1⟩:=copy_row A n c B 1 xs w hO hB (by unfold maxLen;omega)
  have HO:=Lib.hid hO
  have HOW:=Lib.hid how
  have HN:Hid (octN m=[m]):=by show octN m=_;unfold octN;rw [hs];rfl
  have HM:Hid (markN 1=0):=by show markN 1=_;rfl
  clear hO how
  go_enter Tryz.func67,Tryz.ntmps67
  go_wp2_with (first
    | (go_at_call 108;refine (size_any _ _).mono ?_;rintro e w' ⟨rfl,rfl⟩)
    | (go_at_call 109;refine (marked_any _ _ _ (by omega) (by omega)).mono ?_;rintro e w' ⟨rfl,rfl⟩)
    | (at_builtin
       refine wpList_append_fits _ rfl (.tmp 48) (.tmp 51) 23 rfl w.heap.size 5 i0 1 Tryz.underlying23 hi0 hz1 w.heap.size (n) (n+1) (xs.map (Value.int .u8)) rfl (HOW.out.alloc _) ⟨W1.heap.size,0,none⟩ 1 1 [Value.int .u8 ((m+markN 1) % 256)] rfl rfl (new_cells W1 _) (by simp [Value.oneCell']) (by omega) ?_
       intro W2 how2 hg2
       have H2:=Lib.hid how2
       clear how2))
  go_ret
  have b2:=below_app hbw (by omega) (Nat.le_refl _) hg2
  refine well_of H2.out ?_ ?_ ?_ b2.1
  · rw [HN.out,List.length_append,HO.out.1];rfl
  · rw [HN.out,HM.out,List.map_append]
    simp only [List.map_cons,List.map_nil]
    rw [show (m+0) % 256=m from by omega]
  · rw [HN.out]
    intro y hy
    rw [List.mem_append] at hy
    rcases hy with hy | hy
    · exact HO.out.2.1 y hy
    · simp only [List.mem_cons,List.not_mem_nil,or_false] at hy
      omega

theorem sizeN_cases (m:Int):sizeN m=0∧(m<0∨1073741823<m)∨sizeN m=1∧0≤m∧m≤63∨sizeN m=2∧63<m∧m≤16383∨sizeN m=4∧16383<m∧m≤1073741823:=by
 by_cases h:m<0∨1073741823<m
 ·exact .inl ⟨sizeN_0 h,h⟩
 by_cases h1:m≤63
 ·exact .inr (.inl ⟨sizeN_1 (by omega) h1,by omega,h1⟩)
 by_cases h2:m≤16383
 ·exact .inr (.inr (.inl ⟨sizeN_2 (by omega) h2,by omega,h2⟩))
 exact .inr (.inr (.inr ⟨sizeN_4 (by omega) (by omega),by omega,by omega⟩))

theorem put_some (A:Option Addr) (n c B:Nat) (xs:List Int) (m:Int) (w:World) (hO:Oct w B A n xs) (hB:B≤w.heap.size) (hn:n≤70368744177664) (hm:sizeN m≠0) :
  Calls Tryz.prog 67 #[.slice A n c,.int .i64 m] w (PutWell w (xs++octN m)):=by
 rcases sizeN_cases m with h | h | h | h
 ·exact absurd h.1 hm
 ·exact put1 A n c B xs m w hO hB hn h.2.1 h.2.2
 ·exact put2 A n c B xs m w hO hB hn h.2.1 h.2.2
 exact put4 A n c B xs m w hO hB hn h.2.1 h.2.2

theorem octN_length (m:Int):((octN m).length:Int)=sizeN m:=by
 unfold octN
 rcases sizeN_cases m with h | h | h | h<;>rw [h.1]<;>rfl
/- VaOct:
  Octets in memory: a slice that reads as a list of octets, and as a string.
-/
/- VaMore:
  Put behind no octets, in one contract; plain facts on octets and strings.
-/
/-- What Put behind no octets answers: a slice of L octets that reads as ys; nothing that was there has changed. -/
def PutNew (w:World) (L:Nat) (ys:List Int) (e:Ending) (w':World):Prop :=
 ∃ A cap,e=.returned (.slice A L cap)∧L≤cap∧cap≤maxLen∧Oct w' w'.heap.size A L ys∧Below w.heap.size w w'

theorem octN_none {m:Int} (h:sizeN m=0):octN m=[]:=by unfold octN;rw [h];rfl

theorem put_new (m:Int) (w:World):Calls Tryz.prog 67 #[.slice none 0 0,.int .i64 m] w (PutNew w (octN m).length (octN m)):=by
 by_cases hm:sizeN m=0
 ·refine (put_none _ m w hm).mono ?_
  rintro e w' ⟨rfl,rfl⟩
  rw [octN_none hm]
  exact ⟨none,0,rfl,Nat.le_refl _,Nat.zero_le _,Oct.nil _ _ _,Below.refl _ _⟩
 refine (put_some none 0 0 0 [] m w (Oct.nil _ _ _) (Nat.zero_le _) (by omega) hm).mono ?_
 rintro e w' ⟨g,cap,he,_,h1,h2,hO,hb⟩
 rw [List.nil_append] at he hO h1
 exact ⟨_,cap,he,h1,h2,hO,hb⟩

/- VaApp:
  Octets appended to a row of the call's own, whatever the slice that holds them (nil, empty or not).
-/
theorem octN_le (m:Int):(octN m).length≤4:=by
 have:=octN_length m
 rcases sizeN_cases m with h | h | h | h<;>rw [h.1] at this<;>omega
theorem octN_bytes (m:Int):∀ y∈octN m,0≤y∧y≤255:=by
 intro y hy
 unfold octN at hy
 rcases sizeN_cases m with h | h | h | h
 ·rw [h.1] at hy;simp at hy
 ·rw [h.1] at hy
  simp at hy
  omega
 ·rw [h.1] at hy
  simp at hy
  omega
 rw [h.1] at hy
 simp at hy
 omega
/- VaAny:
  What varint.Get and varint.Put answer, error or none, in one contract each; with and without the bounds of the capacity.
-/
/-- The number that Get answers, and the rest. -/
def gotM (xs:List Int):Int:=if getE xs=0 then getV xs else 0
def gotR (xs:List Int):List Int:=if getE xs=0 then xs.drop (getK xs) else []
/-- What Get answers, error or none, with the bounds of the capacity. -/
def GotSl (w:World) (B:Nat) (xs:List Int) (e:Ending) (w':World):Prop :=
 ∃ A n c,e=.returned (.tuple #[.int .i64 (gotM xs),.slice A n c,.int .i64 (getE xs)])∧n≤c∧c≤maxLen∧Oct w' B A n (gotR xs)∧Below w.heap.size w w'

theorem get_sl (A:Option Addr) (n c B:Nat) (xs:List Int) (w:World) (hO:Oct w B A n xs) (hnc:n≤c) (hcm:c≤maxLen):Calls Tryz.prog 80 #[.slice A n c] w (GotSl w B xs):=by
 by_cases hE:getE xs=0
 ·refine (get_good A n c B xs w hO hnc hcm hE).mono ?_
  rintro e w' ⟨A',he,h,d,rfl⟩
  refine ⟨A',n-getK xs,c-getK xs,?_,by omega,by omega,?_,below_of_drewN w d⟩
  ·rw [he,gotM,if_pos hE,hE]
  rw [gotR,if_pos hE];exact h.drewN d
 refine (get_bad A n c B xs w hO hnc hcm hE).mono ?_
 rintro e w' ⟨he,rfl⟩
 refine ⟨none,0,0,?_,Nat.le_refl _,Nat.zero_le _,?_,Below.refl _ _⟩
 ·rw [he,gotM,if_neg hE]
 rw [gotR,if_neg hE];exact Oct.nil _ _ _
/- WiBase:
  Plain contracts of package wire's small functions (width, read, roomy, lay) and of PutNum, for every argument that they can get.
-/
/-- How many octets a number is given. -/
def widthK (k:Int):Nat:=if k<1 then 1 else if 4<k then 4 else k.toNat

theorem widthK_le (k:Int):1≤widthK k∧widthK k≤4:=by
 unfold widthK
 by_cases h:k<1
 ·rw [if_pos h];omega
 rw [if_neg h]
 by_cases h4:4<k
 ·rw [if_pos h4];omega
 rw [if_neg h4];omega

theorem width_any (k:Int) (w:World):Calls Tryz.prog 104 #[.int .i64 k] w fun e w'=>e=.returned (.int .i64 (widthK k:Nat))∧w=w':=by
 by_cases h:k<1
 ·have e:((widthK k:Nat):Int)=1:=by unfold widthK;rw [if_pos h];rfl
  rw [e]
  clear e
  go_enter Tryz.func104,Tryz.ntmps104
  go_wp2
  go_ret
  exact ⟨rfl,rfl⟩
 by_cases h4:4<k
 ·have e:((widthK k:Nat):Int)=4:=by unfold widthK;rw [if_neg h,if_pos h4];rfl
  rw [e]
  clear e
  go_enter Tryz.func104,Tryz.ntmps104
  go_wp2
  all_goals (go_ret;exact ⟨rfl,rfl⟩)
 have e:((widthK k:Nat):Int)=k:=by unfold widthK;rw [if_neg h,if_neg h4];omega
 rw [e]
 clear e
 have hc:k=1∨k=2∨k=3∨k=4:=by omega
 clear h h4
 rcases hc with rfl | rfl | rfl | rfl
 all_goals
  go_enter Tryz.func104,Tryz.ntmps104
  go_wp2
  go_ret
  exact ⟨rfl,rfl⟩

/-- The number of octets, the highest first. -/
def numV (xs:List Int):Int:=xs.foldl (fun a y=>a*256+y) 0
theorem numV_snoc (y:Int) (l:List Int):numV (l++[y])=numV l*256+y:=by simp [numV,List.foldl_append]
theorem numV_step (ys:List Int) (j:Nat) (h:j<ys.length):numV (ys.take (j+1))=numV (ys.take j)*256+ys[j]:=by
 rw [List.take_succ_eq_append_getElem h,numV_snoc]
theorem numV_bd (ys:List Int) (h:∀ y∈ys,0≤y∧y≤255) (hl:ys.length≤4):0≤numV ys∧numV ys≤4294967295:=by
 match ys,h,hl with
 | [],_,_=>simp only [numV,List.foldl_nil];omega
 | [a],h,_=>have ha:=h a (by simp);simp only [numV,List.foldl_nil,List.foldl_cons];omega
 | [a,b],h,_=>have ha:=h a (by simp);have hb:=h b (by simp);simp only [numV,List.foldl_nil,List.foldl_cons];omega
 | [a,b,c],h,_=>have ha:=h a (by simp);have hb:=h b (by simp);have hc:=h c (by simp);simp only [numV,List.foldl_nil,List.foldl_cons];omega
 | [a,b,c,d],h,_=>have ha:=h a (by simp);have hb:=h b (by simp);have hc:=h c (by simp);have hd:=h d (by simp);simp only [numV,List.foldl_nil,List.foldl_cons];omega
 | _::_::_::_::_::_,_,hl=>simp at hl

theorem read_any (A:Option Addr) (n c B:Nat) (xs:List Int) (w:World) (hO:Oct w B A n xs) (hn:n≤4) :
  Calls Tryz.prog 141 #[.slice A n c] w fun e w'=>e=.returned (.int .i64 (numV xs))∧w=w':=by
 by_cases h0:n=0
 ·subst h0
  have hx:xs=[]:=List.eq_nil_of_length_eq_zero hO.1
  subst hx
  clear hO
  go_enter Tryz.func141,Tryz.ntmps141
  go_wp2
  go_loop [3,8] (fun s i=>i=.int .i64 0∧s=.int .i64 0) (fun _ i=>0)
  case atStart=>exact ⟨rfl,rfl⟩
  case round =>
   obtain ⟨rfl,rfl⟩:=hrel
   go_wp2
   go_ret
   exact ⟨rfl,rfl⟩
 obtain ⟨hl,hb,hc⟩:=hO
 obtain ⟨b,o,rfl,hB,hc⟩:=hc (by omega)
 have Hl:=Lib.hid hl
 have Hb:=Lib.hid hb
 have Hc:=Lib.hid hc
 clear hl hb hc
 go_enter Tryz.func141,Tryz.ntmps141
 go_wp2
 go_loop [3,8] (fun s i=>∃ j:Nat,j≤n∧i=.int .i64 j∧s=.int .i64 (numV (xs.take j))) (fun _ i=>n-(intOf i).toNat)
 case atStart=>exact ⟨0,Nat.zero_le _,rfl,by simp [numV]⟩
 case round =>
  obtain ⟨j,hj,rfl,rfl⟩:=hrel
  by_cases hlt:j<n
  ·have hjl:j<xs.length:=by rw [Hl.out];omega
   have hcell:=Hc.out j xs[j] (List.getElem?_eq_getElem hjl)
   have hb:=Hb.out xs[j] (List.getElem_mem hjl)
   have hv:=numV_bd (xs.take j) (fun z hz=>Hb.out z (List.mem_of_mem_take hz)) (by rw [List.length_take];omega)
   have HS:=Lib.hid (numV_step xs j hjl)
   generalize xs[j]=y at *
   generalize hg:numV (xs.take j)=v at *
   have Hg:=Lib.hid hg
   clear hg
   go_wp2
   go_round
   case rel=>exact ⟨j+1,by omega,by go_num,by rw [HS.out]⟩
   case measure=>simp [intOf];omega
  obtain rfl:j=n:=by omega
  have e:numV (xs.take j)=numV xs:=by rw [←Hl.out,List.take_length]
  rw [e]
  clear e
  go_wp2
  go_ret
  exact ⟨rfl,rfl⟩
/- WiPut:
  Contracts of wire.roomy, wire.lay, wire.PutNum and wire.PutFlag, for every slice of octets and every number.
-/
/-- The lowest k octets of a number, the highest first. -/
def numOct (n:Int) (k:Nat):List Int:=(List.range k).map fun i=>n / (2:Int) ^ (8*(k-1-i)) % 256
theorem numOct_length (n:Int) (k:Nat):(numOct n k).length=k:=by simp [numOct]
theorem numOct_bytes (n:Int) (k:Nat):∀ y∈numOct n k,0≤y∧y≤255:=by
 intro y hy
 simp only [numOct,List.mem_map] at hy
 obtain ⟨i,_,rfl⟩:=hy
 omega
theorem numOct_get (n:Int) (k j:Nat) (h:j<k):(numOct n k).take (j+1)=(numOct n k).take j++[n / (2:Int) ^ (8*(k-1-j)) % 256]:=by
 rw [List.take_succ_eq_append_getElem (by rw [numOct_length];exact h)]
 simp [numOct]

theorem roomy_any (A:Option Addr) (n c B k:Nat) (xs:List Int) (w:World) (hO:Oct w B A n xs) (hB:B≤w.heap.size) (hn:n≤70368744177664) (hk:k≤4) :
  Calls Tryz.prog 106 #[.slice A n c,.int .i64 k] w (OwnSl w w.heap.size xs):=by
 have hmk:=make_row n k k rfl (by omega)
 obtain ⟨W1,hcp,how,hbw,hsz1⟩:=copy_row A n c B k xs w hO hB (by unfold maxLen;omega)
 have HL:=Lib.hid hO.1
 have HOW:=Lib.hid how
 clear hO how
 go_enter Tryz.func106,Tryz.ntmps106
 go_wp2
 go_ret
 exact ⟨_,rfl,by rw [HL.out];exact HOW.out,hbw,by omega⟩

theorem lay_any (v:Value) (k base:Nat) (xs:List Int) (m:Int) (w0 w:World) (how:w.ownsRow base 5 1 v xs.length (xs.map (Value.int .u8))) (hbel:Below base w0 w) (hbase:base≤w.heap.size) (hn:xs.length≤35184372088832) (hk:k≤4) :
    Calls Tryz.prog 105 #[v,.int .i64 m,.int .i64 k] w (OwnSl w0 base (xs++numOct m k)):=by
  have HOW:=Lib.hid how
  clear how
  have HL:=Lib.hid (numOct_length m k)
  go_enter Tryz.func105,Tryz.ntmps105
  go_wp2
  go_loopw [0,9] (fun u i w'=>∃ j:Nat,j≤k∧i=.int .i64 j∧Hid (w'.ownsRow base 5 1 u (xs.length+j) ((xs++(numOct m k).take j).map (Value.int .u8)))∧Below base w0 w'∧base≤w'.heap.size) (fun _ i _=>k-(intOf i).toNat)
  case atStart=>exact ⟨0,Nat.zero_le _,rfl,Lib.hid (by simpa using HOW.out),hbel,hbase⟩
  case round =>
    obtain ⟨j,hj,rfl,H1,hb1,hs1⟩:=hrel
    by_cases hlt:j<k
    · have HN:=Lib.hid (numOct_get m k j hlt)
      have HT:Hid ((xs++(numOct m k).take j).length=xs.length+j):=by
        show _=_
        rw [List.length_append,List.length_take,HL.out];omega
      go_wp2_with (at_builtin
                   refine wpList_append_oct _ rfl (.tmp 12) (.tmp 21) rfl rfl base _ (xs++(numOct m k).take j) [m / (2:Int) ^ (8*(k-1-j)) % 256] (some ⟨wr.heap.size,0,none⟩) 1 1 (wr.heap.size+1) rfl rfl ?hown ?hO ?hb ?hbase ?_
                   case hown=>rw [HT.out];exact H1.out.alloc _
                   case hO=>exact Oct.new wr [m / (2:Int) ^ (8*(k-1-j)) % 256] (by intro y hy;simp only [List.mem_cons,List.not_mem_nil,or_false] at hy;omega)
                   case hb=>rw [HT.out];omega
                   case hbase=>simp;omega
                   intro v4 w4 hj4
                   have hb4:=joined_below (H1.out.alloc _) hj4 (hb1.alloc hs1 _) (by simp;omega)
                   have h4:=hj4.1
                   rw [List.append_assoc,←HN.out,HT.out] at h4
                   have H4:=Lib.hid h4
                   clear h4 hj4)
      go_roundw
      case rel=>exact ⟨j+1,by omega,by go_num,H4,hb4.1,hb4.2⟩
      case measure=>simp [intOf];omega
    · obtain rfl:j=k:=by omega
      have e:(numOct m j).take j=numOct m j:=by
        conv=>lhs;arg 1;rw [←HL.out]
        rw [List.take_length]
      rw [e] at H1
      clear e
      go_wp2
      go_ret
      exact ⟨_,rfl,by rw [List.length_append,HL.out];exact H1.out,hb1,hs1⟩

/-- What PutNum answers. -/
theorem putNum_any (A:Option Addr) (n c B:Nat) (xs:List Int) (m k:Int) (w:World) (hO:Oct w B A n xs) (hB:B≤w.heap.size) (hn:n≤35184372088832) :
  Calls Tryz.prog 65 #[.slice A n c,.int .i64 m,.int .i64 k] w (PutSl w (xs++numOct m (widthK k))):=by
 have hk:=(widthK_le k).2
 have HO:=Lib.hid hO
 have HL:=Lib.hid hO.1
 clear hO
 obtain ⟨K,hK⟩:∃ K,widthK k=K:=⟨_,rfl⟩
 have HK:=Lib.hid hK
 rw [hK] at hk ⊢
 clear hK
 go_enter Tryz.func65,Tryz.ntmps65
 go_wp2_with fail
 refine (width_any _ _).mono ?_
 rw [HK.out]
 rintro e w' ⟨rfl,rfl⟩
 go_wp2_with fail
 refine (roomy_any A n c B K xs _ HO.out hB (by omega) hk).mono ?_
 rintro e w1 ⟨v1,rfl,how1,hb1,hs1⟩
 have HOW:=Lib.hid how1
 clear how1
 go_wp2_with fail
 refine (lay_any v1 K w.heap.size xs m w _ HOW.out hb1 hs1 (by rw [HL.out];exact hn) hk).mono ?_
 rintro e w2 ⟨v2,rfl,how2,hb2,hs2⟩
 have HOW2:=Lib.hid how2
 clear how2
 go_wp2
 go_ret
 have hy:∀ y∈xs++numOct m K,0≤y∧y≤255:=fun y hy=>by
  rcases List.mem_append.1 hy with h | h
  ·exact HO.out.2.1 y h
  exact numOct_bytes m K y h
 obtain ⟨A3,c3,rfl,h1,h2,h3⟩:=own_sl HOW2.out hy
 exact ⟨A3,_,c3,rfl,h1,h2,h3,hb2⟩

/-- The octet of a flag. -/
def flagOct (b:Bool):List Int:=[if b then 1 else 0]

theorem putFlag_any (A:Option Addr) (n c B:Nat) (xs:List Int) (b:Bool) (w:World) (hO:Oct w B A n xs) (hB:B≤w.heap.size) (hn:n≤35184372088832) :
  Calls Tryz.prog 64 #[.slice A n c,.bool b] w (PutSl w (xs++flagOct b)):=by
 have HO:=Lib.hid hO
 clear hO
 cases b
 ·go_enter Tryz.func64,Tryz.ntmps64
  go_wp2_with fail
  refine (putNum_any A n c B xs 0 1 _ HO.out hB hn).mono ?_
  rintro e w1 ⟨A1,n1,c1,rfl,h1,h2,h3,hb⟩
  have H3:=Lib.hid h3
  clear h3
  go_wp2
  go_ret
  exact ⟨A1,n1,c1,rfl,h1,h2,H3.out,hb⟩
 go_enter Tryz.func64,Tryz.ntmps64
 go_wp2_with fail
 refine (putNum_any A n c B xs 1 1 _ HO.out hB hn).mono ?_
 rintro e w1 ⟨A1,n1,c1,rfl,h1,h2,h3,hb⟩
 have H3:=Lib.hid h3
 clear h3
 go_wp2
 go_ret
 exact ⟨A1,n1,c1,rfl,h1,h2,H3.out,hb⟩
/- WiGet:
  Contracts of wire.GetNum, wire.GetFlag and wire.GetBytes, for every slice of octets.
-/
theorem getNum_short (A:Option Addr) (n c K:Nat) (k:Int) (w:World) (hK:widthK k=K) (h:n<K) :
  Calls Tryz.prog 125 #[.slice A n c,.int .i64 k] w fun e w'=>e=.returned (.tuple #[.int .i64 0,.slice none 0 0,.int .i64 1])∧w=w':=by
 have HK:=Lib.hid hK
 clear hK
 go_enter Tryz.func125,Tryz.ntmps125
 go_wp2_with fail
 refine (width_any _ _).mono ?_
 rw [HK.out]
 rintro e w' ⟨rfl,rfl⟩
 go_wp2
 go_ret3
 exact ⟨rfl,rfl⟩

theorem getNum_ok (A:Option Addr) (n c B K:Nat) (xs:List Int) (k:Int) (w:World) (hO:Oct w B A n xs) (hnc:n≤c) (hcm:c≤maxLen) (hK:widthK k=K) (h:K≤n) :
  Calls Tryz.prog 125 #[.slice A n c,.int .i64 k] w fun e w'=>e=.returned (.tuple #[.int .i64 (numV (xs.take K)),.slice (cutA A K c) (n-K) (c-K),.int .i64 0])∧∃ d,w'=w.drewN d:=by
 have hk4:K≤4:=by rw [←hK];exact (widthK_le k).2
 have HK:=Lib.hid hK
 have HO:=Lib.hid (hO.upto K h)
 clear hK hO
 have r1:=run_cut_l A n c K K rfl h
 have r2:=run_cut_h A n c K K rfl (by omega)
 have h3:decide (n<K)=false:=by simp;omega
 go_enter Tryz.func125,Tryz.ntmps125
 go_wp2_with fail
 refine (width_any _ _).mono ?_
 rw [HK.out]
 rintro e w' ⟨rfl,rfl⟩
 go_wp2_with fail
 go_quiet ((go_at_call 141;exact quietLeft (read_any A K c B _ _ (HO.out.drewN _) hk4)))
 go_wp2
 go_ret3
 exact ⟨rfl,_,rfl⟩

/-- A number, the rest and an error are answered; nothing that was there has changed. -/
def GotInt (w:World) (B:Nat) (m:Int) (rs:List Int) (er:Int) (e:Ending) (w':World):Prop :=
 ∃ A n c,e=.returned (.tuple #[.int .i64 m,.slice A n c,.int .i64 er])∧n≤c∧c≤maxLen∧Oct w' B A n rs∧Below w.heap.size w w'
/-- A flag, the rest and an error are answered; nothing that was there has changed. -/
def GotFlag (w:World) (B:Nat) (b:Bool) (rs:List Int) (er:Int) (e:Ending) (w':World):Prop :=
 ∃ A n c,e=.returned (.tuple #[.bool b,.slice A n c,.int .i64 er])∧n≤c∧c≤maxLen∧Oct w' B A n rs∧Below w.heap.size w w'
/-- Octets, the rest and an error are answered; nothing that was there has changed. -/
def GotTwo (w:World) (B:Nat) (ps rs:List Int) (er:Int) (e:Ending) (w':World):Prop :=
 ∃ A1 n1 c1 A n c,e=.returned (.tuple #[.slice A1 n1 c1,.slice A n c,.int .i64 er])∧n1≤c1∧c1≤maxLen∧n≤c∧c≤maxLen∧Oct w' B A1 n1 ps∧Oct w' B A n rs∧Below w.heap.size w w'

def numE (xs:List Int) (k:Int):Int:=if xs.length<widthK k then 1 else 0
def numM (xs:List Int) (k:Int):Int:=if xs.length<widthK k then 0 else numV (xs.take (widthK k))
def numR (xs:List Int) (k:Int):List Int:=if xs.length<widthK k then [] else xs.drop (widthK k)

theorem getNum_any (A:Option Addr) (n c B:Nat) (xs:List Int) (k:Int) (w:World) (hO:Oct w B A n xs) (hnc:n≤c) (hcm:c≤maxLen) :
  Calls Tryz.prog 125 #[.slice A n c,.int .i64 k] w (GotInt w B (numM xs k) (numR xs k) (numE xs k)):=by
 have hl:=hO.1
 by_cases h:n<widthK k
 ·refine (getNum_short A n c _ k w rfl h).mono ?_
  rintro e w' ⟨rfl,rfl⟩
  rw [numM,numR,numE,if_pos (by omega),if_pos (by omega),if_pos (by omega)]
  exact ⟨none,0,0,rfl,Nat.le_refl _,Nat.zero_le _,Oct.nil _ _ _,Below.refl _ _⟩
 refine (getNum_ok A n c B _ xs k w hO hnc hcm rfl (by omega)).mono ?_
 rintro e w' ⟨rfl,d,rfl⟩
 rw [numM,numR,numE,if_neg (by omega),if_neg (by omega),if_neg (by omega)]
 exact ⟨_,_,_,rfl,by omega,by omega,(hO.cutA _ c hnc (by omega)).drewN d,below_of_drewN w d⟩

def flagE (xs:List Int):Int:=if xs.length=0 then 1 else if 1<xs.headD 0 then 2 else 0
def flagB (xs:List Int):Bool:=xs.headD 0 == 1
def flagR (xs:List Int):List Int:=if flagE xs=0 then xs.drop 1 else []

theorem getFlag_any (A:Option Addr) (n c B:Nat) (xs:List Int) (w:World) (hO:Oct w B A n xs) (hnc:n≤c) (hcm:c≤maxLen) :
  Calls Tryz.prog 124 #[.slice A n c] w (GotFlag w B (flagB xs) (flagR xs) (flagE xs)):=by
 have hl:=hO.1
 have hw1:widthK 1=1:=rfl
 match xs,hO,hl with
 | [],hO,hl =>
  have hn:n=0:=by simpa using hl.symm
  subst hn
  have Hc:=Lib.hid (getNum_short A 0 c 1 1 w rfl (by omega))
  clear hl hO hw1
  go_enter Tryz.func124,Tryz.ntmps124
  go_wp2_with fail
  refine Hc.out.mono ?_
  rintro e w' ⟨rfl,rfl⟩
  go_wp2
  go_ret3
  exact ⟨none,0,0,rfl,Nat.le_refl _,Nat.zero_le _,Oct.nil _ _ _,Below.refl _ _⟩
 | x::ys,hO,hl =>
  have hn:1≤n:=by rw [←hl];simp
  have hx:=hO.2.1 x (by simp)
  have hv:numV ((x::ys).take 1)=x:=by simp [numV]
  have Hc:=Lib.hid (getNum_ok A n c B 1 (x::ys) 1 w hO hnc hcm rfl hn)
  rw [hv] at Hc
  have HO:=Lib.hid (hO.cutA 1 c hnc hn)
  by_cases h1:1<x
  ·have e1:flagE (x::ys)=2:=by simp [flagE,h1]
   have e2:flagR (x::ys)=[]:=by simp [flagR,e1]
   have e3:flagB (x::ys)=false:=by simp [flagB];omega
   rw [e1,e2,e3]
   clear hl hO hw1 hv e1 e2 e3
   go_enter Tryz.func124,Tryz.ntmps124
   go_wp2_with fail
   refine Hc.out.mono ?_
   rintro e w' ⟨rfl,d,rfl⟩
   go_wp2
   go_ret3
   exact ⟨none,0,0,rfl,Nat.le_refl _,Nat.zero_le _,Oct.nil _ _ _,below_of_drewN w d⟩
  have e1:flagE (x::ys)=0:=by simp [flagE,h1]
  have e2:flagR (x::ys)=ys:=by simp [flagR,e1]
  rw [e1,e2]
  have hc:x=0∨x=1:=by omega
  clear hl hO hw1 hv e1 e2 h1
  rcases hc with rfl | rfl
  all_goals
   go_enter Tryz.func124,Tryz.ntmps124
   go_wp2_with fail
   refine Hc.out.mono ?_
   rintro e w' ⟨rfl,d,rfl⟩
   go_wp2
   go_ret3
   exact ⟨_,_,_,rfl,by omega,by omega,HO.out.drewN d,below_of_drewN w d⟩

def bytesE (xs:List Int):Int:=if getE xs≠0 then getE xs else if 1048576<getV xs then 4 else if ((gotR xs).length:Int)<getV xs then 1 else 0
def bytesP (xs:List Int):List Int:=if bytesE xs=0 then (gotR xs).take (getV xs).toNat else []
def bytesR (xs:List Int):List Int:=if bytesE xs=0 then (gotR xs).drop (getV xs).toNat else []

theorem getV_nonneg (xs:List Int) (hx:∀ x∈xs,0≤x∧x≤255):0≤getV xs:=by
 unfold getV
 exact (valN_bd _ _ (fun y hy=>hx y (List.mem_of_mem_tail (List.mem_of_mem_take hy))) (by rw [List.length_take];have:=getK_le xs;omega)).1

theorem getBytes_any (A:Option Addr) (n c B:Nat) (xs:List Int) (w:World) (hO:Oct w B A n xs) (hnc:n≤c) (hcm:c≤maxLen) (hB:B≤w.heap.size) :
  Calls Tryz.prog 45 #[.slice A n c] w (GotTwo w B (bytesP xs) (bytesR xs) (bytesE xs)):=by
 have HO:=Lib.hid hO
 have hV:=getV_nonneg xs hO.2.1
 clear hO
 by_cases hE:getE xs=0
 ·have hM:gotM xs=getV xs:=by rw [gotM,if_pos hE]
  obtain ⟨V,hVn⟩:=Int.eq_ofNat_of_zero_le hV
  by_cases h1:1048576<getV xs
  ·have e1:bytesE xs=4:=by simp [bytesE,hE,h1]
   have e2:bytesP xs=[]:=by simp [bytesP,e1]
   have e3:bytesR xs=[]:=by simp [bytesR,e1]
   rw [e1,e2,e3]
   have Hc:=Lib.hid (get_sl A n c B xs w HO.out hnc hcm)
   unfold GotSl at Hc
   rw [hE,hM,hVn] at Hc
   rw [hVn] at h1
   clear e1 e2 e3 hE hM hVn hV
   go_enter Tryz.func45,Tryz.ntmps45
   go_wp2_with fail
   refine Hc.out.mono ?_
   rintro e w' ⟨A1,n1,c1,rfl,hn1,hc1,hO1,hb1⟩
   clear hO1
   go_wp2
   go_ret3
   exact ⟨none,0,0,none,0,0,rfl,Nat.le_refl _,Nat.zero_le _,Nat.le_refl _,Nat.zero_le _,Oct.nil _ _ _,Oct.nil _ _ _,hb1⟩
  by_cases h2:((gotR xs).length:Int)<getV xs
  ·have e1:bytesE xs=1:=by simp [bytesE,hE,h1,h2]
   have e2:bytesP xs=[]:=by simp [bytesP,e1]
   have e3:bytesR xs=[]:=by simp [bytesR,e1]
   rw [e1,e2,e3]
   have Hc:=Lib.hid (get_sl A n c B xs w HO.out hnc hcm)
   unfold GotSl at Hc
   rw [hE,hM,hVn] at Hc
   rw [hVn] at h1 h2
   clear e1 e2 e3 hE hM hVn hV
   go_enter Tryz.func45,Tryz.ntmps45
   go_wp2_with fail
   refine Hc.out.mono ?_
   rintro e w' ⟨A1,n1,c1,rfl,hn1,hc1,hO1,hb1⟩
   have h3:n1<V:=by rw [←hO1.1];omega
   clear hO1 h2
   go_wp2
   go_ret3
   exact ⟨none,0,0,none,0,0,rfl,Nat.le_refl _,Nat.zero_le _,Nat.le_refl _,Nat.zero_le _,Oct.nil _ _ _,Oct.nil _ _ _,hb1⟩
  have e1:bytesE xs=0:=by simp [bytesE,hE,h1,h2]
  have e2:bytesP xs=(gotR xs).take V:=by simp [bytesP,e1,hVn]
  have e3:bytesR xs=(gotR xs).drop V:=by simp [bytesR,e1,hVn]
  rw [e1,e2,e3]
  have Hc:=Lib.hid (get_sl A n c B xs w HO.out hnc hcm)
  unfold GotSl at Hc
  rw [hE,hM,hVn] at Hc
  rw [hVn] at h1 h2
  generalize gotR xs=rs at *
  clear e1 e2 e3 hE hM hVn hV
  go_enter Tryz.func45,Tryz.ntmps45
  go_wp2_with fail
  refine Hc.out.mono ?_
  rintro e w1 ⟨A1,n1,c1,rfl,hn1,hc1,hO1,hb1⟩
  have h3:V≤n1:=by rw [←hO1.1];omega
  have h4:decide (n1<V)=false:=by simp;omega
  have h5:decide ((1048576:Int)<(V:Int))=false:=by simpa using h1
  have HO1:=Lib.hid hO1
  have r1:=run_cut_l A1 n1 c1 V V rfl h3
  have r2:=run_cut_hm A1 n1 c1 V V rfl (by omega)
  clear hO1 h2
  go_wp2_with fail
  go_quiet (fail)
  go_wp2
  go_ret3
  exact ⟨_,_,_,_,_,_,rfl,Nat.le_refl _,by omega,by omega,by omega,(HO1.out.upto V h3).drewN _,(HO1.out.cutA V c1 hn1 h3).drewN _,below_drewN hb1 _⟩
 have e1:bytesE xs=getE xs:=by simp [bytesE,hE]
 have e2:bytesP xs=[]:=by simp [bytesP,e1,hE]
 have e3:bytesR xs=[]:=by simp [bytesR,e1,hE]
 rw [e1,e2,e3]
 have hne:(getE xs != 0)=true:=by simpa using hE
 have Hc:=Lib.hid (get_bad A n c B xs w HO.out hnc hcm hE)
 generalize getE xs=ee at *
 clear e1 e2 e3 hE hV
 go_enter Tryz.func45,Tryz.ntmps45
 go_wp2_with fail
 refine Hc.out.mono ?_
 rintro e w' ⟨rfl,rfl⟩
 go_wp2
 go_ret3
 exact ⟨none,0,0,none,0,0,rfl,Nat.le_refl _,Nat.zero_le _,Nat.le_refl _,Nat.zero_le _,Oct.nil _ _ _,Oct.nil _ _ _,Below.refl _ _⟩
/- WiCat:
  Contracts of slices.Grow (of nil) and slices.Concat (of three slices of octets), which the program takes from Go's library, and of wire.PutBytes.
-/
set_option maxRecDepth 20000 in
theorem grow_nil (n:Nat) (m:Int) (hm:m=n) (w:World) (hn:n≤70368744177664) :
  Calls Tryz.prog 107 #[.slice none 0 0,.int .i64 m] w (OwnSl w w.heap.size []):=by
 subst hm
 obtain ⟨i0,hi0,hz0,hz1,hz2⟩:=info_parts info5
 by_cases h0:n=0
 ·subst h0
  go_enter Tryz.func107,Tryz.ntmps107
  go_wp2
  go_ret
  exact ⟨_,rfl,⟨rfl,.inl ⟨rfl,rfl⟩⟩,Below.refl _ _,Nat.le_refl _⟩
 have hr:=Lib.run_append_nil_zeros (P:=Tryz.prog) w 23 3 23 5 i0 _ .i64 .i64 Tryz.underlying23 Tryz.underlying3 hi0 hz0 n (by omega) (by omega) (by omega) (by rw [hz2];omega)
 have hG:=grownCap_ge w n 0 5
 have hG2:=grownCap_le_maxLen w n 0 5 (by unfold maxLen;omega)
 generalize grownCap w n 0 5=G at *
 have HR:=Lib.hid hr
 have hpos:0<n:=by omega
 have hG3:G≤9223372036854775807:=hG2
 clear hr hG2
 go_enter Tryz.func107,Tryz.ntmps107
 go_wp2_with (at_builtin;refine Lib.wpList_append_run _ rfl _ _ _ _ rfl _ _ rfl rfl _ _ HR.out ?_)
 go_ret
 refine ⟨_,rfl,⟨rfl,.inr ⟨w.heap.size,G,_,rfl,Nat.le_refl _,heap_alloc_new w.drew _,Nat.zero_le _,hG3,?_,rfl⟩⟩,((Below.refl _ _).drew).alloc (Nat.le_refl _) _,by simp⟩
 rw [Array.size_append,size_zeroCells,size_zeroCells]
 simp
 omega

/-- How far the sum of three lengths has come. -/
def CatSum (n1 n2 n3:Nat) (s i:Value):Prop :=
 (i=.int .i64 0∧s=.int .i64 0)∨(i=.int .i64 1∧s=.int .i64 n1)∨(i=.int .i64 2∧s=.int .i64 ((n1:Int)+n2))∨(i=.int .i64 3∧s=.int .i64 ((n1:Int)+n2+n3))

/-- How far three slices of octets have been joined. -/
def CatRow (w:World) (x1 x2 x3:List Int) (v i:Value) (w':World):Prop :=
  Below w.heap.size w w'∧w.heap.size≤w'.heap.size ∧
  ((i=.int .i64 0∧w'.ownsRow w.heap.size 5 1 v ([]:List Int).length (([]:List Int).map (Value.int .u8))) ∨
   (i=.int .i64 1∧w'.ownsRow w.heap.size 5 1 v x1.length (x1.map (Value.int .u8))) ∨
   (i=.int .i64 2∧w'.ownsRow w.heap.size 5 1 v (x1++x2).length ((x1++x2).map (Value.int .u8))) ∨
   (i=.int .i64 3∧w'.ownsRow w.heap.size 5 1 v (x1++x2++x3).length ((x1++x2++x3).map (Value.int .u8))))

theorem concat_three (b n1 n2 n3 c1 c2 c3 B:Nat) (A1 A2 A3:Option Addr) (x1 x2 x3:List Int) (w:World)
    (h1:Oct w B A1 n1 x1) (h2:Oct w B A2 n2 x2) (h3:Oct w B A3 n3 x3) (hB:B≤w.heap.size) (hb:b<w.heap.size)
    (e1:w.cell? ⟨b,0,none⟩=some (.slice A1 n1 c1)) (e2:w.cell? ⟨b,1,none⟩=some (.slice A2 n2 c2)) (e3:w.cell? ⟨b,2,none⟩=some (.slice A3 n3 c3))
    (hn:n1+n2+n3≤70368744177664) :
    Calls Tryz.prog 66 #[.slice (some ⟨b,0,none⟩) 3 3] w (OwnSl w w.heap.size (x1++x2++x3)):=by
  have H1:=Lib.hid h1
  have H2:=Lib.hid h2
  have H3:=Lib.hid h3
  have L1:=Lib.hid h1.1
  have L2:=Lib.hid h2.1
  have L3:=Lib.hid h3.1
  have E1:=Lib.hid e1
  have E2:=Lib.hid e2
  have E3:=Lib.hid e3
  clear h1 h2 h3 e1 e2 e3
  go_enter Tryz.func66,Tryz.ntmps66
  go_wp2
  go_loop [3,11] (fun s i=>CatSum n1 n2 n3 s i) (fun _ i=>3-(intOf i).toNat)
  case atStart=>exact .inl ⟨rfl,rfl⟩
  case round =>
    rcases hrel with ⟨rfl,rfl⟩ | ⟨rfl,rfl⟩ | ⟨rfl,rfl⟩ | ⟨rfl,rfl⟩
    · have e:=E1.out
      go_wp2
      go_round
      case rel=>exact .inr (.inl ⟨rfl,rfl⟩)
      case measure=>simp [intOf]
    · have e:=E2.out
      go_wp2
      go_round
      case rel=>exact .inr (.inr (.inl ⟨rfl,rfl⟩))
      case measure=>simp [intOf]
    · have e:=E3.out
      go_wp2
      go_round
      case rel=>exact .inr (.inr (.inr ⟨rfl,rfl⟩))
      case measure=>simp [intOf]
    · go_wp2_with fail
      refine (grow_nil (n1+n2+n3) _ (by omega) _ hn).mono ?_
      rintro e w1 ⟨v1,rfl,how1,hb1,hs1⟩
      have HOW1:=Lib.hid how1
      clear how1
      go_wp2_with fail
      go_loopw [6,27] (fun v i w'=>CatRow w x1 x2 x3 v i w') (fun _ i _=>3-(intOf i).toNat)
      case atStart=>exact ⟨hb1,hs1,.inl ⟨rfl,HOW1.out⟩⟩
      case round =>
        rcases hrel with ⟨hb2,hs2,⟨rfl,how2⟩ | ⟨rfl,how2⟩ | ⟨rfl,how2⟩ | ⟨rfl,how2⟩⟩
        · have HOW2:=Lib.hid how2
          have e:=(hb2.cell (p:=⟨b,0,none⟩) hb).trans E1.out
          clear how2
          go_wp2_with (at_builtin
                       refine wpList_append_oct _ rfl (.tmp 31) (.tmp 32) rfl rfl w.heap.size _ [] x1 A1 n1 c1 B rfl rfl ?hown ?hO ?hb ?hbase ?_
                       case hown=>exact HOW2.out
                       case hO=>exact H1.out.below (hb2.mono hB)
                       case hb=>simp;omega
                       case hbase=>exact hs2
                       intro v4 w4 hj4
                       have hb4:=joined_below HOW2.out hj4 hb2 hs2
                       have H4:=Lib.hid hj4.1
                       clear hj4)
          go_roundw
          case rel =>
            have h4:=H4.out
            rw [←List.length_append] at h4
            exact ⟨hb4.1,hb4.2,.inr (.inl ⟨rfl,h4⟩)⟩
          case measure=>simp [intOf]
        · have HOW2:=Lib.hid how2
          have e:=(hb2.cell (p:=⟨b,1,none⟩) hb).trans E2.out
          clear how2
          go_wp2_with (at_builtin
                       refine wpList_append_oct _ rfl (.tmp 31) (.tmp 32) rfl rfl w.heap.size _ x1 x2 A2 n2 c2 B rfl rfl ?hown ?hO ?hb ?hbase ?_
                       case hown=>exact HOW2.out
                       case hO=>exact H2.out.below (hb2.mono hB)
                       case hb=>simp [L1.out];omega
                       case hbase=>exact hs2
                       intro v4 w4 hj4
                       have hb4:=joined_below HOW2.out hj4 hb2 hs2
                       have H4:=Lib.hid hj4.1
                       clear hj4)
          go_roundw
          case rel =>
            have h4:=H4.out
            rw [←List.length_append] at h4
            exact ⟨hb4.1,hb4.2,.inr (.inr (.inl ⟨rfl,h4⟩))⟩
          case measure=>simp [intOf]
        · have HOW2:=Lib.hid how2
          have e:=(hb2.cell (p:=⟨b,2,none⟩) hb).trans E3.out
          clear how2
          go_wp2_with (at_builtin
                       refine wpList_append_oct _ rfl (.tmp 31) (.tmp 32) rfl rfl w.heap.size _ (x1++x2) x3 A3 n3 c3 B rfl rfl ?hown ?hO ?hb ?hbase ?_
                       case hown=>exact HOW2.out
                       case hO=>exact H3.out.below (hb2.mono hB)
                       case hb=>simp [L1.out,L2.out];omega
                       case hbase=>exact hs2
                       intro v4 w4 hj4
                       have hb4:=joined_below HOW2.out hj4 hb2 hs2
                       have H4:=Lib.hid hj4.1
                       clear hj4)
          go_roundw
          case rel =>
            have h4:=H4.out
            rw [←List.length_append] at h4
            exact ⟨hb4.1,hb4.2,.inr (.inr (.inr ⟨rfl,h4⟩))⟩
          case measure=>simp [intOf]
        · have HOW2:=Lib.hid how2
          clear how2
          go_wp2
          go_ret
          exact ⟨_,rfl,HOW2.out,hb2,hs2⟩

/-- Octets, and how many they are ahead of them. -/
def bytesOct (vs:List Int):List Int:=if 1048576<vs.length then [] else octN vs.length++vs

theorem new_three (w:World) (u0 u1 u2:Value) (T:TypeId) :
  (w.alloc (.cells #[u0,u1,u2] T)).cell? ⟨w.heap.size,0,none⟩=some u0∧(w.alloc (.cells #[u0,u1,u2] T)).cell? ⟨w.heap.size,1,none⟩=some u1∧(w.alloc (.cells #[u0,u1,u2] T)).cell? ⟨w.heap.size,2,none⟩=some u2:=by
 have h:=fun j=>cell_of_row (w.alloc (.cells #[u0,u1,u2] T)) w.heap.size j #[u0,u1,u2] T (0,0) (heap_alloc_new w _)
 refine ⟨?_,?_,?_⟩
 ·rw [h 0];rfl
 ·rw [h 1];rfl
 rw [h 2];rfl

theorem putBytes_any (A A2:Option Addr) (n c n2 c2 B:Nat) (xs vs:List Int) (w:World) (hO:Oct w B A n xs) (hV:Oct w B A2 n2 vs) (hB:B≤w.heap.size) (hnc:n≤c) (hcm:c≤maxLen) (hn:n≤35184372088832) :
  Calls Tryz.prog 30 #[.slice A n c,.slice A2 n2 c2] w (PutSl w (xs++bytesOct vs)):=by
 have HO:=Lib.hid hO
 have HV:=Lib.hid hV
 have L2:=Lib.hid hV.1
 clear hO hV
 by_cases hbig:1048576<n2
 ·have e:bytesOct vs=[]:=by unfold bytesOct;rw [L2.out,if_pos hbig]
  rw [e,List.append_nil]
  clear e
  go_enter Tryz.func30,Tryz.ntmps30
  go_wp2
  go_ret
  exact ⟨A,n,c,rfl,hnc,hcm,HO.out.more hB,Below.refl _ _⟩
 have E:Hid (bytesOct vs=octN n2++vs):=by show _=_;unfold bytesOct;rw [L2.out,if_neg hbig]
 have hL4:=octN_le (n2:Int)
 obtain ⟨L,hL⟩:∃ L,(octN (n2:Int)).length=L:=⟨_,rfl⟩
 rw [hL] at hL4
 have HL:=Lib.hid hL
 clear hL
 go_enter Tryz.func30,Tryz.ntmps30
 go_wp2_with fail
 refine (put_new (n2:Int) _).mono ?_
 rw [HL.out]
 rintro e w1 ⟨A1,c1,rfl,hLc,hc1,hO1,hb1⟩
 have HO1:=Lib.hid hO1
 clear hO1
 have k1:=hb1.size
 go_wp2_with fail
 obtain ⟨f0,f1,f2⟩:=new_three w1 (.slice A n c) (.slice A1 L c1) (.slice A2 n2 c2) 23
 have ba:Below w1.heap.size w1 (w1.alloc (.cells #[.slice A n c,.slice A1 L c1,.slice A2 n2 c2] 23)):=(Below.refl _ _).alloc (Nat.le_refl _) _
 refine (concat_three w1.heap.size n L n2 c c1 c2 w1.heap.size A A1 A2 xs (octN n2) vs _ ((HO.out.below (hb1.mono hB)).more (by omega) |>.below ba) (HO1.out.below ba) ((HV.out.below (hb1.mono hB)).more (by omega) |>.below ba) (by simp) (by simp) f0 f1 f2 (by omega)).mono ?_
 clear f0 f1 f2
 rintro e w2 ⟨v2,rfl,how2,hb2,hs2⟩
 have HOW2:=Lib.hid how2
 clear how2
 go_wp2
 go_ret
 rw [E.out,←List.append_assoc]
 have hy:∀ y∈xs++octN n2++vs,0≤y∧y≤255:=fun y hy=>by
  rcases List.mem_append.1 hy with h | h
  ·rcases List.mem_append.1 h with h | h
   ·exact HO.out.2.1 y h
   exact octN_bytes _ y h
  exact HV.out.2.1 y h
 obtain ⟨A3,c3,rfl,g1,g2,g3⟩:=own_sl HOW2.out hy
 exact ⟨A3,_,c3,rfl,g1,g2,g3,hb1.trans ((ba.trans (hb2.mono (by simp))).mono k1)⟩
/- WiNums:
  Contracts of wire.PutNums and wire.GetNums, for every list of numbers and every slice of octets.
-/
/-- The four octets of each number. -/
def numsOct (ls:List Int):List Int:=ls.flatMap fun n=>numOct n 4
theorem numsOct_length (ls:List Int):(numsOct ls).length=4*ls.length:=by
 induction ls with
 | nil=>rfl
 | cons x l ih =>
  have e:numsOct (x::l)=numOct x 4++numsOct l:=rfl
  rw [e,List.length_append,numOct_length,ih,List.length_cons];omega
theorem numsOct_bytes (ls:List Int):∀ y∈numsOct ls,0≤y∧y≤255:=by
 intro y hy
 unfold numsOct at hy
 rw [List.mem_flatMap] at hy
 obtain ⟨n,_,h⟩:=hy
 exact numOct_bytes n 4 y h
theorem numsOct_step (ls:List Int) (j:Nat) (h:j<ls.length):numsOct (ls.take (j+1))=numsOct (ls.take j)++numOct ls[j] 4:=by
 unfold numsOct
 rw [List.take_succ_eq_append_getElem h,List.flatMap_append,List.flatMap_cons,List.flatMap_nil,List.append_nil]

theorem putNums_any (A A2:Option Addr) (n c n2 c2 B:Nat) (xs ls:List Int) (w:World) (hO:Oct w B A n xs) (hV:Nums w B A2 n2 ls) (hB:B≤w.heap.size) (hnc:n≤c) (hcm:c≤maxLen) (hn:n≤35184372088832) :
  Calls Tryz.prog 146 #[.slice A n c,.slice A2 n2 c2] w (PutSl w (xs++bytesOct (numsOct ls))):=by
 have HO:=Lib.hid hO
 have HV:=Lib.hid hV
 have L2:=Lib.hid hV.1
 clear hO hV
 by_cases hbig:262144<n2
 ·have e:bytesOct (numsOct ls)=[]:=by unfold bytesOct;rw [numsOct_length,L2.out,if_pos (by omega)]
  rw [e,List.append_nil]
  clear e
  go_enter Tryz.func146,Tryz.ntmps146
  go_wp2
  go_ret
  exact ⟨A,n,c,rfl,hnc,hcm,HO.out.more hB,Below.refl _ _⟩
 have hmk:=make_room (4*n2) (4*(n2:Int)) (by omega) (by omega)
 have HOW:=Lib.hid (room_own (4*n2) (by unfold maxLen;omega) w)
 have ba:Below w.heap.size w (w.alloc (.cells (zeros (4*n2)).toArray 5)):=(Below.refl _ _).alloc (Nat.le_refl _) _
 generalize (zeros (4*n2)).toArray=zz at *
 go_enter Tryz.func146,Tryz.ntmps146
 go_wp2_with fail
 clear hmk
 go_loopw [5,18] (fun u i w'=>∃ j:Nat,j≤n2∧i=.int .i64 j∧Hid (w'.ownsRow w.heap.size 5 1 u (numsOct (ls.take j)).length ((numsOct (ls.take j)).map (Value.int .u8)))∧Below w.heap.size w w'∧w.heap.size≤w'.heap.size) (fun _ i _=>n2-(intOf i).toNat)
 case atStart=>exact ⟨0,Nat.zero_le _,rfl,Lib.hid (by simpa [numsOct] using HOW.out),ba,by simp⟩
 case round =>
  obtain ⟨j,hj,rfl,H1,hb1,hs1⟩:=hrel
  have HT:Hid ((numsOct (ls.take j)).length=4*j):=by
   show _=_
   rw [numsOct_length,List.length_take,L2.out];omega
  by_cases hlt:j<n2
  ·have hjl:j<ls.length:=by rw [L2.out];omega
   obtain ⟨b,o,rfl,hbB,hc⟩:=HV.out.2 (by omega)
   have hcell:=(hb1.cell (p:=⟨b,o+j,none⟩) (by show b<w.heap.size;omega)).trans (hc j ls[j] (List.getElem?_eq_getElem hjl))
   have HS:=Lib.hid (numsOct_step ls j hjl)
   clear hc
   generalize ls[j]=y at *
   go_wp2_with fail
   refine (lay_any _ 4 w.heap.size _ y w _ H1.out hb1 hs1 (by rw [HT.out];omega) (Nat.le_refl _)).mono ?_
   rw [←HS.out]
   rintro e w2 ⟨v2,rfl,how2,hb2,hs2⟩
   have H2:=Lib.hid how2
   clear how2
   go_wp2_with fail
   go_roundw
   case rel=>exact ⟨j+1,by omega,by go_num,H2,hb2,hs2⟩
   case measure=>simp [intOf];omega
  obtain rfl:j=n2:=by omega
  have e:ls.take j=ls:=by rw [←L2.out,List.take_length]
  rw [e] at H1 HT
  clear e
  obtain ⟨A3,c3,rfl,h1,h2,h3⟩:=own_sl H1.out (numsOct_bytes ls)
  have H3:=Lib.hid h3
  clear h3
  go_wp2_with fail
  refine (putBytes_any A A3 n c _ c3 _ xs (numsOct ls) _ ((HO.out.below (hb1.mono hB)).more (by omega)) H3.out (Nat.le_refl _) hnc hcm hn).mono ?_
  rintro e w4 ⟨A4,n4,c4,rfl,g1,g2,g3,hb4⟩
  have H4:=Lib.hid g3
  clear g3
  go_wp2
  go_ret
  exact ⟨A4,n4,c4,rfl,g1,g2,H4.out,hb1.trans (hb4.mono hs1)⟩

/-- The numbers of four octets each. -/
def fours (ps:List Int):List Int:=(List.range (ps.length / 4)).map fun i=>numV ((ps.drop (4*i)).take 4)
theorem fours_length (ps:List Int):(fours ps).length=ps.length / 4:=by simp [fours]
theorem fours_step (ps:List Int) (j:Nat) (h:j<ps.length / 4):(fours ps).take (j+1)=(fours ps).take j++[numV ((ps.drop (4*j)).take 4)]:=by
 rw [List.take_succ_eq_append_getElem (by rw [fours_length];exact h)]
 simp [fours]

def numsE (xs:List Int):Int:=if bytesE xs≠0 then bytesE xs else if (bytesP xs).length % 4≠0 then 2 else 0
def numsL (xs:List Int):List Int:=if numsE xs=0 then fours (bytesP xs) else []
def numsR (xs:List Int):List Int:=if numsE xs=0 then bytesR xs else []

/-- Numbers, the rest and an error are answered; nothing that was there has changed. -/
def GotNums (w:World) (B:Nat) (ls rs:List Int) (er:Int) (e:Ending) (w':World):Prop :=
 ∃ A1 n1 c1 A n c,e=.returned (.tuple #[.slice A1 n1 c1,.slice A n c,.int .i64 er])∧n1≤c1∧c1≤maxLen∧n≤c∧c≤maxLen∧Nums w' w'.heap.size A1 n1 ls∧Oct w' B A n rs∧Below w.heap.size w w'

/-- As GotNums; the numbers lie in a block that was not there. -/
def GotNumsF (w:World) (B:Nat) (ls rs:List Int) (er:Int) (e:Ending) (w':World):Prop :=
 ∃ A1 n1 c1 A n c,e=.returned (.tuple #[.slice A1 n1 c1,.slice A n c,.int .i64 er])∧n1≤c1∧c1≤maxLen∧n≤c∧c≤maxLen∧Nums w' w'.heap.size A1 n1 ls∧Oct w' B A n rs∧Below w.heap.size w w'∧∀ p,A1=some p→w.heap.size≤p.block
theorem GotNumsF.got {w w':World} {B:Nat} {ls rs:List Int} {er:Int} {e:Ending} (h:GotNumsF w B ls rs er e w'):GotNums w B ls rs er e w':=by
 obtain ⟨A1,n1,c1,A,n,c,h0,h1,h2,h3,h4,h5,h6,h7,_⟩:=h
 exact ⟨A1,n1,c1,A,n,c,h0,h1,h2,h3,h4,h5,h6,h7⟩

theorem run_cut_four (A:Option Addr) (n c j:Nat) (h2:4*j+4≤c) (w:World) :
  (Instr.sliceAt 23 (.slice A n c) (some (.int .i64 (4*(j:Int)))) (some (.int .i64 (4*(j:Int)+4))) none).run Tryz.prog w=.ok (.slice (cutA A (4*j) c) 4 (c-4*j)) w:=by
 have h:=run_cut_lh A n c (4*j) (4*j+4) (4*(j:Int)) (4*(j:Int)+4) (by omega) (by omega) (by omega) h2 w
 rwa [show 4*j+4-4*j=4 from by omega] at h

theorem bytesP_le (xs:List Int) (hx:∀ x∈xs,0≤x∧x≤255):(bytesP xs).length≤1048576:=by
 unfold bytesP
 by_cases h:bytesE xs=0
 ·rw [if_pos h,List.length_take]
  have:¬1048576<getV xs:=by
   intro h2
   unfold bytesE at h
   by_cases h3:getE xs=0
   ·rw [if_neg (by simpa using h3),if_pos h2] at h;simp at h
   rw [if_pos h3] at h;exact h3 h
  omega
 rw [if_neg h];simp

theorem getNums_anyF (A:Option Addr) (n c B:Nat) (xs:List Int) (w:World) (hO:Oct w B A n xs) (hnc:n≤c) (hcm:c≤maxLen) (hB:B≤w.heap.size) :
  Calls Tryz.prog 147 #[.slice A n c] w (GotNumsF w B (numsL xs) (numsR xs) (numsE xs)):=by
 have Hc:=Lib.hid (getBytes_any A n c B xs w hO hnc hcm hB)
 have hle:=bytesP_le xs hO.2.1
 clear hO
 by_cases hE:bytesE xs=0
 ·by_cases h4:(bytesP xs).length % 4=0
  ·have e1:numsE xs=0:=by simp [numsE,hE,h4]
   have e2:numsL xs=fours (bytesP xs):=by simp [numsL,e1]
   have e3:numsR xs=bytesR xs:=by simp [numsR,e1]
   rw [e1,e2,e3]
   rw [hE] at Hc
   generalize bytesP xs=ps at *
   generalize bytesR xs=rs at *
   obtain ⟨k,hk⟩:∃ k,ps.length / 4=k:=⟨_,rfl⟩
   have hk4:ps.length=4*k:=by omega
   have HK:=Lib.hid hk
   have HK4:=Lib.hid hk4
   have hkb:k≤262144:=by omega
   clear e1 e2 e3 hE h4 hk hk4 hle
   have hmk:=make_nums k k rfl (by omega)
   go_enter Tryz.func147,Tryz.ntmps147
   go_wp2_with fail
   refine Hc.out.mono ?_
   rintro e w1 ⟨A1,n1,c1,A2,n2,c2,rfl,hn1,hc1,hn2,hc2,hO1,hO2,hb1⟩
   have hc1':c1≤9223372036854775807:=hc1
   obtain rfl:n1=4*k:=by rw [←hO1.1,HK4.out]
   have HO1:=Lib.hid hO1
   have HO2:=Lib.hid hO2
   clear hO1 hO2
   have HR:Hid ((w1.alloc (.cells (zerosI k).toArray 3)).ownsRow w1.heap.size 3 1 (.slice (some ⟨w1.heap.size,0,none⟩) k k) k (rowAt (fours ps) k 0)):=by
    have h:=World.ownsRow_lit (base:=w1.heap.size) (e:=3) (size:=1) w1 (zerosI k).toArray k (Nat.le_refl _) (by unfold maxLen;omega) (by simp [zerosI_length])
    show World.ownsRow _ _ _ _ _ _ _
    simpa [rowAt] using h
   have ba:Below w1.heap.size w1 (w1.alloc (.cells (zerosI k).toArray 3)):=(Below.refl _ _).alloc (Nat.le_refl _) _
   have HF:Hid ((fours ps).length=k):=by show _=_;rw [fours_length,HK.out]
   generalize (zerosI k).toArray=zz at *
   go_wp2_with fail
   clear hmk
   go_loopw [29] (fun i w'=>∃ j:Nat,j≤k∧i=.int .i64 j∧Hid (w'.ownsRow w1.heap.size 3 1 (.slice (some ⟨w1.heap.size,0,none⟩) k k) k (rowAt (fours ps) k j))∧Below w1.heap.size w1 w'∧w1.heap.size≤w'.heap.size) (fun i _=>k-(intOf i).toNat)
   case atStart=>exact ⟨0,Nat.zero_le _,rfl,HR,ba,by simp⟩
   case round =>
    obtain ⟨j,hj,rfl,H1,hb2,hs2⟩:=hrel
    by_cases hlt:j<k
    ·have r1:=run_cut_four A1 (4*k) c1 j (by omega)
     have hcell:wr.cell? ⟨w1.heap.size,j,none⟩=some (.int .i64 0):=by rw [H1.out.cellAt j (by omega)];exact rowAt_get _ k j HF.out hlt
     have hfro:wr.frozen? ⟨w1.heap.size,j,none⟩=false:=H1.out.frozenAt j
     have HS:=Lib.hid (fours_step ps j (by rw [HK.out];exact hlt))
     have HX:Hid (Oct wr B (cutA A1 (4*j) c1) 4 ((ps.drop (4*j)).take 4)):=by
      show Oct _ _ _ _ _
      exact ((HO1.out.below (hb2.mono (Nat.le_trans hB hb1.size))).cutA (4*j) c1 hn1 (by omega)).upto 4 (by omega)
     have HD:=Lib.hid (read_any (cutA A1 (4*j) c1) 4 (c1-4*j) B _ _ HX.out (Nat.le_refl _))
     generalize numV ((ps.drop (4*j)).take 4)=y at HS HD
     go_wp2_with (go_at_call 141;refine HD.out.mono ?_;rintro e w' ⟨rfl,rfl⟩)
     have hst:=H1.out.stored j (.int .i64 y)
     have H2:=Lib.hid hst.1
     have hb3:Below w1.heap.size w1 (wr.setCell ⟨w1.heap.size,j,none⟩ (.int .i64 y)):=hb2.grown hst.2 hs2 (fun k hk=>by injection hk with hk;omega)
     have hs3:w1.heap.size≤(wr.setCell ⟨w1.heap.size,j,none⟩ (.int .i64 y)).heap.size:=Nat.le_trans hs2 hst.2.size
     rw [rowAt_set _ k j HF.out hlt y HS.out] at H2
     clear hst
     go_roundw
     case rel=>exact ⟨j+1,by omega,by go_num,H2,hb3,hs3⟩
     case measure=>simp [intOf];omega
    obtain rfl:j=k:=by omega
    have e:rowAt (fours ps) j j=(fours ps).map (Value.int .i64):=by
     unfold rowAt
     rw [Nat.sub_self,show zerosI 0=[] from rfl,List.append_nil]
     conv=>lhs;arg 2;arg 1;rw [←HF.out]
     rw [List.take_length]
    rw [e] at H1
    clear e
    go_wp2_with fail
    go_ret3
    exact ⟨_,_,_,A2,n2,c2,rfl,Nat.le_refl _,(by unfold maxLen at *;omega),hn2,hc2,own_nums H1.out,HO2.out.below (hb2.mono (Nat.le_trans hB hb1.size)),hb1.trans (hb2.mono hb1.size),fun p e=>by injection e with e;subst e;exact hb1.size⟩
  have e1:numsE xs=2:=by simp [numsE,hE,h4]
  have e2:numsL xs=[]:=by simp [numsL,e1]
  have e3:numsR xs=[]:=by simp [numsR,e1]
  rw [e1,e2,e3]
  rw [hE] at Hc
  generalize bytesP xs=ps at *
  generalize bytesR xs=rs at *
  clear e1 e2 e3 hE
  go_enter Tryz.func147,Tryz.ntmps147
  go_wp2_with fail
  refine Hc.out.mono ?_
  rintro e w1 ⟨A1,n1,c1,A2,n2,c2,rfl,hn1,hc1,hn2,hc2,hO1,hO2,hb1⟩
  have hm:¬n1 % 4=0:=by rw [←hO1.1];exact h4
  have hc1':c1≤9223372036854775807:=hc1
  clear hO1 hO2 h4
  have hm2:((n1:Int) % 4 != 0)=true:=by simp;omega
  have hm3:(n1 % 4 == 0)=false:=by simp;omega
  go_wp2
  go_ret3
  exact ⟨none,0,0,none,0,0,rfl,Nat.le_refl _,Nat.zero_le _,Nat.le_refl _,Nat.zero_le _,Nums.nil _ _ _,Oct.nil _ _ _,hb1,fun p e=>by cases e⟩
 have e1:numsE xs=bytesE xs:=by simp [numsE,hE]
 have e2:numsL xs=[]:=by simp [numsL,e1,hE]
 have e3:numsR xs=[]:=by simp [numsR,e1,hE]
 rw [e1,e2,e3]
 have hne:(bytesE xs != 0)=true:=by simpa using hE
 generalize bytesE xs=ee at *
 generalize bytesP xs=ps at *
 generalize bytesR xs=rs at *
 clear e1 e2 e3 hE
 go_enter Tryz.func147,Tryz.ntmps147
 go_wp2_with fail
 refine Hc.out.mono ?_
 rintro e w1 ⟨A1,n1,c1,A2,n2,c2,rfl,hn1,hc1,hn2,hc2,hO1,hO2,hb1⟩
 clear hO1 hO2
 go_wp2
 go_ret3
 exact ⟨none,0,0,none,0,0,rfl,Nat.le_refl _,Nat.zero_le _,Nat.le_refl _,Nat.zero_le _,Nums.nil _ _ _,Oct.nil _ _ _,hb1,fun p e=>by cases e⟩
/- WiRow:
  Slices of numbers that came in, read as lists; small bounds.
-/
/- WiMath:
  Plain facts on the octets of layer 2: what is put is got, what is got was put, what is cut short is short.
-/
theorem bytesOct_small {vs:List Int} (h:vs.length≤1048576):bytesOct vs=octN vs.length++vs:=by unfold bytesOct;rw [if_neg (by omega)]
theorem bytesOct_bytes {vs:List Int} (h:∀ y∈vs,0≤y∧y≤255):∀ y∈bytesOct vs,0≤y∧y≤255:=by
 intro y hy
 unfold bytesOct at hy
 split at hy
 ·cases hy
 rcases List.mem_append.1 hy with h1 | h1
 ·exact octN_bytes _ y h1
 exact h y h1

/- WiBits:
  The lowest bits of a number, as a remainder.
-/

/- CatTwo:
  Contracts of slices.Grow (of nil) and slices.Concat (of two slices of octets), which the program takes from Go's library.
-/
set_option maxRecDepth 20000 in
theorem grow_nil2 (n:Nat) (m:Int) (hm:m=n) (w:World) (hn:n≤70368744177664) :
  Calls Tryz.prog 107 #[.slice none 0 0,.int .i64 m] w (OwnSl w w.heap.size []):=by
 subst hm
 obtain ⟨i0,hi0,hz0,hz1,hz2⟩:=info_parts info5
 by_cases h0:n=0
 ·subst h0
  go_enter Tryz.func107,Tryz.ntmps107
  go_wp2
  go_ret
  exact ⟨_,rfl,⟨rfl,.inl ⟨rfl,rfl⟩⟩,Below.refl _ _,Nat.le_refl _⟩
 have hr:=Lib.run_append_nil_zeros (P:=Tryz.prog) w 23 3 23 5 i0 _ .i64 .i64 Tryz.underlying23 Tryz.underlying3 hi0 hz0 n (by omega) (by omega) (by omega) (by rw [hz2];omega)
 have hG:=grownCap_ge w n 0 5
 have hG2:=grownCap_le_maxLen w n 0 5 (by unfold maxLen;omega)
 generalize grownCap w n 0 5=G at *
 have HR:=Lib.hid hr
 have hpos:0<n:=by omega
 have hG3:G≤9223372036854775807:=hG2
 clear hr hG2
 go_enter Tryz.func107,Tryz.ntmps107
 go_wp2_with (at_builtin;refine Lib.wpList_append_run _ rfl _ _ _ _ rfl _ _ rfl rfl _ _ HR.out ?_)
 go_ret
 refine ⟨_,rfl,⟨rfl,.inr ⟨w.heap.size,G,_,rfl,Nat.le_refl _,heap_alloc_new w.drew _,Nat.zero_le _,hG3,?_,rfl⟩⟩,((Below.refl _ _).drew).alloc (Nat.le_refl _) _,by simp⟩
 rw [Array.size_append,size_zeroCells,size_zeroCells]
 simp
 omega

/-- How far the sum of two lengths has come. -/
def CatSum2 (n1 n2:Nat) (s i:Value):Prop :=
 (i=.int .i64 0∧s=.int .i64 0)∨(i=.int .i64 1∧s=.int .i64 n1)∨(i=.int .i64 2∧s=.int .i64 ((n1:Int)+n2))
/-- How far two slices of octets have been joined. -/
def CatRow2 (w:World) (x1 x2:List Int) (v i:Value) (w':World):Prop :=
  Below w.heap.size w w'∧w.heap.size≤w'.heap.size ∧
  ((i=.int .i64 0∧w'.ownsRow w.heap.size 5 1 v ([]:List Int).length (([]:List Int).map (Value.int .u8))) ∨
   (i=.int .i64 1∧w'.ownsRow w.heap.size 5 1 v x1.length (x1.map (Value.int .u8))) ∨
   (i=.int .i64 2∧w'.ownsRow w.heap.size 5 1 v (x1++x2).length ((x1++x2).map (Value.int .u8))))
theorem concat_two (b n1 n2 c1 c2 B:Nat) (A1 A2:Option Addr) (x1 x2:List Int) (w:World)
    (h1:Oct w B A1 n1 x1) (h2:Oct w B A2 n2 x2) (hB:B≤w.heap.size) (hb:b<w.heap.size)
    (e1:w.cell? ⟨b,0,none⟩=some (.slice A1 n1 c1)) (e2:w.cell? ⟨b,1,none⟩=some (.slice A2 n2 c2))
    (hn:n1+n2≤70368744177664) :
    Calls Tryz.prog 66 #[.slice (some ⟨b,0,none⟩) 2 2] w (OwnSl w w.heap.size (x1++x2)):=by
  have H1:=Lib.hid h1
  have H2:=Lib.hid h2
  have L1:=Lib.hid h1.1
  have L2:=Lib.hid h2.1
  have E1:=Lib.hid e1
  have E2:=Lib.hid e2
  clear h1 h2 e1 e2
  go_enter Tryz.func66,Tryz.ntmps66
  go_wp2
  go_loop [3,11] (fun s i=>CatSum2 n1 n2 s i) (fun _ i=>2-(intOf i).toNat)
  case atStart=>exact .inl ⟨rfl,rfl⟩
  case round =>
    rcases hrel with ⟨rfl,rfl⟩ | ⟨rfl,rfl⟩ | ⟨rfl,rfl⟩
    · have e:=E1.out
      go_wp2
      go_round
      case rel=>exact .inr (.inl ⟨rfl,rfl⟩)
      case measure=>simp [intOf]
    · have e:=E2.out
      go_wp2
      go_round
      case rel=>exact .inr (.inr ⟨rfl,rfl⟩)
      case measure=>simp [intOf]
    · go_wp2_with fail
      refine (grow_nil2 (n1+n2) _ (by omega) _ hn).mono ?_
      rintro e w1 ⟨v1,rfl,how1,hb1,hs1⟩
      have HOW1:=Lib.hid how1
      clear how1
      go_wp2_with fail
      go_loopw [6,27] (fun v i w'=>CatRow2 w x1 x2 v i w') (fun _ i _=>2-(intOf i).toNat)
      case atStart=>exact ⟨hb1,hs1,.inl ⟨rfl,HOW1.out⟩⟩
      case round =>
        rcases hrel with ⟨hb2,hs2,⟨rfl,how2⟩ | ⟨rfl,how2⟩ | ⟨rfl,how2⟩⟩
        · have HOW2:=Lib.hid how2
          have e:=(hb2.cell (p:=⟨b,0,none⟩) hb).trans E1.out
          clear how2
          go_wp2_with (at_builtin
                       refine wpList_append_oct _ rfl (.tmp 31) (.tmp 32) rfl rfl w.heap.size _ [] x1 A1 n1 c1 B rfl rfl ?hown ?hO ?hb ?hbase ?_
                       case hown=>exact HOW2.out
                       case hO=>exact H1.out.below (hb2.mono hB)
                       case hb=>simp;omega
                       case hbase=>exact hs2
                       intro v4 w4 hj4
                       have hb4:=joined_below HOW2.out hj4 hb2 hs2
                       have H4:=Lib.hid hj4.1
                       clear hj4)
          go_roundw
          case rel =>
            have h4:=H4.out
            rw [←List.length_append] at h4
            exact ⟨hb4.1,hb4.2,.inr (.inl ⟨rfl,h4⟩)⟩
          case measure=>simp [intOf]
        · have HOW2:=Lib.hid how2
          have e:=(hb2.cell (p:=⟨b,1,none⟩) hb).trans E2.out
          clear how2
          go_wp2_with (at_builtin
                       refine wpList_append_oct _ rfl (.tmp 31) (.tmp 32) rfl rfl w.heap.size _ x1 x2 A2 n2 c2 B rfl rfl ?hown ?hO ?hb ?hbase ?_
                       case hown=>exact HOW2.out
                       case hO=>exact H2.out.below (hb2.mono hB)
                       case hb=>simp [L1.out];omega
                       case hbase=>exact hs2
                       intro v4 w4 hj4
                       have hb4:=joined_below HOW2.out hj4 hb2 hs2
                       have H4:=Lib.hid hj4.1
                       clear hj4)
          go_roundw
          case rel =>
            have h4:=H4.out
            rw [←List.length_append] at h4
            exact ⟨hb4.1,hb4.2,.inr (.inr ⟨rfl,h4⟩)⟩
          case measure=>simp [intOf]
        · have HOW2:=Lib.hid how2
          clear how2
          go_wp2
          go_ret
          exact ⟨_,rfl,HOW2.out,hb2,hs2⟩
end Go.Proofs.YtognnnjdoemgfaaGreatDoor
