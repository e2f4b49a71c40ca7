/-
  KitR: VaRef, WiRef, WiRefP, WiRefN.
-/
import Derived.Test.YtognnnjdoemgfaaGreatDoorKitV
namespace Go.Proofs.YtognnnjdoemgfaaGreatDoor
open Go.ChangeShapes Go.WideShapes Go.ChangeAt Go.RowKit
set_option linter.unusedVariables false

/- VaRef:
  The contracts of the document's own answers for layer 1 (the reference's Size, Get and Put), for every argument.
-/
theorem rsize_any (n:Int) (w:World):Calls Tryz.prog 83 #[.int .i64 n] w fun e w'=>e=.returned (.int .i64 (sizeN n))∧w=w':=by
 by_cases h0:n<0
 ·go_enter Tryz.func83,Tryz.ntmps83
  go_wp2
  go_ret
  exact ⟨retInt (sizeN_0 (.inl h0)).symm,rfl⟩
 by_cases h1:1073741823<n
 ·go_enter Tryz.func83,Tryz.ntmps83
  go_wp2
  go_ret
  exact ⟨retInt (sizeN_0 (.inr h1)).symm,rfl⟩
 by_cases h2:n≤63
 ·go_enter Tryz.func83,Tryz.ntmps83
  go_wp2
  go_ret
  exact ⟨retInt (sizeN_1 (by omega) h2).symm,rfl⟩
 by_cases h3:n≤16383
 ·go_enter Tryz.func83,Tryz.ntmps83
  go_wp2
  go_ret
  exact ⟨retInt (sizeN_2 (by omega) h3).symm,rfl⟩
 go_enter Tryz.func83,Tryz.ntmps83
 go_wp2
 go_ret
 exact ⟨retInt (sizeN_4 (by omega) (by omega)).symm,rfl⟩

theorem rget_none (A:Option Addr) (c:Nat) (w:World) :
  Calls Tryz.prog 48 #[.slice A 0 c] w fun e w'=>e=.returned (.tuple #[.int .i64 0,.slice none 0 0,.int .i64 1])∧w=w':=by
 go_enter Tryz.func48,Tryz.ntmps48
 go_wp2
 go_ret3
 exact ⟨rfl,rfl⟩

theorem rget_high (b o n c:Nat) (x:Int) (w:World) (hn:0<n) (hx:192≤x) (hc:w.cell? ⟨b,o,none⟩=some (.int .u8 x)) :
  Calls Tryz.prog 48 #[.slice (some ⟨b,o,none⟩) n c] w fun e w'=>e=.returned (.tuple #[.int .i64 0,.slice none 0 0,.int .i64 2])∧w=w':=by
 have h0:((n:Int) == 0)=false:=by simp;omega
 have h1:(0:Int)<(n:Int):=by omega
 have h2:¬x<64:=by omega
 have h3:¬x<128:=by omega
 go_enter Tryz.func48,Tryz.ntmps48
 go_wp2
 go_ret3
 exact ⟨rfl,rfl⟩

theorem rget_short (b o n c k:Nat) (x:Int) (w:World) (hn:0<n) (ht:toldN x=k) (hk:n<k) (hc:w.cell? ⟨b,o,none⟩=some (.int .u8 x)) :
  Calls Tryz.prog 48 #[.slice (some ⟨b,o,none⟩) n c] w fun e w'=>e=.returned (.tuple #[.int .i64 0,.slice none 0 0,.int .i64 1])∧w=w':=by
 have h0:((n:Int) == 0)=false:=by simp;omega
 have h1:(0:Int)<(n:Int):=by omega
 rcases toldN_cases x with h | h | h | h
 ·rw [h.1] at ht;omega
 ·rw [h.1] at ht;omega
 ·obtain rfl:k=2:=by rw [h.1] at ht;omega
  have hx1:¬x<64:=by omega
  have hx2:x<128:=by omega
  have hlt:(n:Int)<2:=by omega
  clear h ht hk
  go_enter Tryz.func48,Tryz.ntmps48
  go_wp2
  go_ret3
  exact ⟨rfl,rfl⟩
 obtain rfl:k=4:=by rw [h.1] at ht;omega
 have hx1:¬x<64:=by omega
 have hx2:¬x<128:=by omega
 have hx3:¬192≤x:=by omega
 have hlt:(n:Int)<4:=by omega
 clear h ht hk
 go_enter Tryz.func48,Tryz.ntmps48
 go_wp2
 go_ret3
 exact ⟨rfl,rfl⟩

theorem rget_ok (b o n c k:Nat) (x m:Int) (ys:List Int) (w:World) (ht:toldN x=k) (h1k:1≤k) (hk4:k≤4) (hk:k≤n) (hnc:n≤c) (hcm:c≤maxLen)
  (hx:0≤x) (hx255:x≤255)
  (hc:w.cell? ⟨b,o,none⟩=some (.int .u8 x)) (hy:∀ i y,ys[i]?=some y→w.cell? ⟨b,o+1+i,none⟩=some (.int .u8 y)) (hl:ys.length=k-1)
  (hyb:∀ y∈ys,0≤y∧y≤255)
  (hm:valN x ys=m) (hs:sizeN m=k) (hck:¬c=k) :
  Calls Tryz.prog 48 #[.slice (some ⟨b,o,none⟩) n c] w fun e w'=>e=.returned (.tuple #[.int .i64 m,.slice (some ⟨b,o+k,none⟩) (n-k) (c-k),.int .i64 0])∧∃ d,w'=w.drewN d:=by
 have h0:((n:Int) == 0)=false:=by simp;omega
 have h1:(0:Int)<(n:Int):=by omega
 have hnb:n≤9223372036854775807:=Nat.le_trans hnc hcm
 have hcb:c≤9223372036854775807:=hcm
 have Hm:=Lib.hid hm
 have Hs:=Lib.hid hs
 have Hy:=Lib.hid hy
 have Hyb:=Lib.hid hyb
 have Hl:=Lib.hid hl
 clear hm hs hy hyb hl
 rcases toldN_cases x with h | h | h | h
 ·rw [h.1] at ht;omega
 ·obtain rfl:k=1:=by rw [h.1] at ht;omega
  have hx1:x<64:=by omega
  have hge:decide ((n:Int)<1)=false:=by simp;omega
  clear h ht
  go_enter Tryz.func48,Tryz.ntmps48
  go_wp2_with fail
  go_loop [6,7] (fun s i=>∃ j:Nat,j+1≤1∧i=.int .i64 ((j:Int)+1)∧s=.int .i64 (valN x (ys.take j))) (fun _ i=>1-(intOf i).toNat)
  case atStart=>exact ⟨0,by omega,rfl,by simp [valN]⟩
  case round =>
   obtain ⟨j,hj,rfl,rfl⟩:=hrel
   by_cases hlt:j+1<1
   ·omega
   obtain rfl:j=1-1:=by omega
   have e:valN x (ys.take (1-1))=m:=by
    rw [show (1-1:Nat)=ys.length from Hl.out.symm,List.take_length];exact Hm.out
   have hs1:(sizeN m != 1)=false:=by rw [Hs.out];simp
   rw [e]
   clear e
   go_wp2_with (go_at_call 83;refine (rsize_any _ _).mono ?_;rintro e w' ⟨rfl,rfl⟩)
   go_quiet (fail)
   go_wp2
   go_ret3
   exact ⟨rfl,_,rfl⟩
 ·obtain rfl:k=2:=by rw [h.1] at ht;omega
  have hx1:¬x<64:=by omega
  have hx2:x<128:=by omega
  have hge:decide ((n:Int)<2)=false:=by simp;omega
  clear h ht
  go_enter Tryz.func48,Tryz.ntmps48
  go_wp2_with fail
  go_loop [6,7] (fun s i=>∃ j:Nat,j+1≤2∧i=.int .i64 ((j:Int)+1)∧s=.int .i64 (valN x (ys.take j))) (fun _ i=>2-(intOf i).toNat)
  case atStart=>exact ⟨0,by omega,rfl,by simp [valN]⟩
  case round =>
   obtain ⟨j,hj,rfl,rfl⟩:=hrel
   by_cases hlt:j+1<2
   ·have hjl:j<ys.length:=by rw [Hl.out];omega
    have hcell:=Hy.out j ys[j] (List.getElem?_eq_getElem hjl)
    rw [show o+1+j=o+(j+1) from by omega] at hcell
    have hb:=Hyb.out ys[j] (List.getElem_mem hjl)
    have hv:=valN_bd x (ys.take j) (fun z hz=>Hyb.out z (List.mem_of_mem_take hz)) (by rw [List.length_take];omega)
    have HS:=Lib.hid (valN_step x ys j hjl)
    generalize ys[j]=y at *
    generalize hg:valN x (ys.take j)=v at *
    have Hg:=Lib.hid hg
    clear hg
    go_wp2_with fail
    go_round
    case rel=>exact ⟨j+1,by omega,by go_num,by rw [HS.out]⟩
    case measure=>simp [intOf];omega
   obtain rfl:j=2-1:=by omega
   have e:valN x (ys.take (2-1))=m:=by
    rw [show (2-1:Nat)=ys.length from Hl.out.symm,List.take_length];exact Hm.out
   have hs1:(sizeN m != 2)=false:=by rw [Hs.out];simp
   rw [e]
   clear e
   go_wp2_with (go_at_call 83;refine (rsize_any _ _).mono ?_;rintro e w' ⟨rfl,rfl⟩)
   go_quiet (fail)
   go_wp2
   go_ret3
   exact ⟨rfl,_,rfl⟩
 obtain rfl:k=4:=by rw [h.1] at ht;omega
 have hx1:¬x<64:=by omega
 have hx2:¬x<128:=by omega
 have hx3:¬192≤x:=by omega
 have hge:decide ((n:Int)<4)=false:=by simp;omega
 clear h ht
 go_enter Tryz.func48,Tryz.ntmps48
 go_wp2_with fail
 go_loop [6,7] (fun s i=>∃ j:Nat,j+1≤4∧i=.int .i64 ((j:Int)+1)∧s=.int .i64 (valN x (ys.take j))) (fun _ i=>4-(intOf i).toNat)
 case atStart=>exact ⟨0,by omega,rfl,by simp [valN]⟩
 case round =>
  obtain ⟨j,hj,rfl,rfl⟩:=hrel
  by_cases hlt:j+1<4
  ·have hjl:j<ys.length:=by rw [Hl.out];omega
   have hcell:=Hy.out j ys[j] (List.getElem?_eq_getElem hjl)
   rw [show o+1+j=o+(j+1) from by omega] at hcell
   have hb:=Hyb.out ys[j] (List.getElem_mem hjl)
   have hv:=valN_bd x (ys.take j) (fun z hz=>Hyb.out z (List.mem_of_mem_take hz)) (by rw [List.length_take];omega)
   have HS:=Lib.hid (valN_step x ys j hjl)
   generalize ys[j]=y at *
   generalize hg:valN x (ys.take j)=v at *
   have Hg:=Lib.hid hg
   clear hg
   go_wp2_with fail
   go_round
   case rel=>exact ⟨j+1,by omega,by go_num,by rw [HS.out]⟩
   case measure=>simp [intOf];omega
  obtain rfl:j=4-1:=by omega
  have e:valN x (ys.take (4-1))=m:=by
   rw [show (4-1:Nat)=ys.length from Hl.out.symm,List.take_length];exact Hm.out
  have hs1:(sizeN m != 4)=false:=by rw [Hs.out];simp
  rw [e]
  clear e
  go_wp2_with (go_at_call 83;refine (rsize_any _ _).mono ?_;rintro e w' ⟨rfl,rfl⟩)
  go_quiet (fail)
  go_wp2
  go_ret3
  exact ⟨rfl,_,rfl⟩

theorem rget_okk (b o k:Nat) (x m:Int) (ys:List Int) (w:World) (ht:toldN x=k) (h1k:1≤k) (hk4:k≤4)
  (hx:0≤x) (hx255:x≤255)
  (hc:w.cell? ⟨b,o,none⟩=some (.int .u8 x)) (hy:∀ i y,ys[i]?=some y→w.cell? ⟨b,o+1+i,none⟩=some (.int .u8 y)) (hl:ys.length=k-1)
  (hyb:∀ y∈ys,0≤y∧y≤255)
  (hm:valN x ys=m) (hs:sizeN m=k) :
  Calls Tryz.prog 48 #[.slice (some ⟨b,o,none⟩) k k] w fun e w'=>e=.returned (.tuple #[.int .i64 m,.slice (some ⟨b,o,none⟩) 0 0,.int .i64 0])∧∃ d,w'=w.drewN d:=by
 have h0:((k:Int) == 0)=false:=by simp;omega
 have h1:(0:Int)<(k:Int):=by omega
 have Hm:=Lib.hid hm
 have Hs:=Lib.hid hs
 have Hy:=Lib.hid hy
 have Hyb:=Lib.hid hyb
 have Hl:=Lib.hid hl
 clear hm hs hy hyb hl
 rcases toldN_cases x with h | h | h | h
 ·rw [h.1] at ht;omega
 ·obtain rfl:k=1:=by rw [h.1] at ht;omega
  have hx1:x<64:=by omega
  clear h ht
  go_enter Tryz.func48,Tryz.ntmps48
  go_wp2_with fail
  go_loop [6,7] (fun s i=>∃ j:Nat,j+1≤1∧i=.int .i64 ((j:Int)+1)∧s=.int .i64 (valN x (ys.take j))) (fun _ i=>1-(intOf i).toNat)
  case atStart=>exact ⟨0,by omega,rfl,by simp [valN]⟩
  case round =>
   obtain ⟨j,hj,rfl,rfl⟩:=hrel
   by_cases hlt:j+1<1
   ·omega
   obtain rfl:j=1-1:=by omega
   have e:valN x (ys.take (1-1))=m:=by
    rw [show (1-1:Nat)=ys.length from Hl.out.symm,List.take_length];exact Hm.out
   have hs1:(sizeN m != 1)=false:=by rw [Hs.out];simp
   rw [e]
   clear e
   go_wp2_with (go_at_call 83;refine (rsize_any _ _).mono ?_;rintro e w' ⟨rfl,rfl⟩)
   go_quiet (fail)
   go_wp2
   go_ret3
   exact ⟨rfl,_,rfl⟩
 ·obtain rfl:k=2:=by rw [h.1] at ht;omega
  have hx1:¬x<64:=by omega
  have hx2:x<128:=by omega
  clear h ht
  go_enter Tryz.func48,Tryz.ntmps48
  go_wp2_with fail
  go_loop [6,7] (fun s i=>∃ j:Nat,j+1≤2∧i=.int .i64 ((j:Int)+1)∧s=.int .i64 (valN x (ys.take j))) (fun _ i=>2-(intOf i).toNat)
  case atStart=>exact ⟨0,by omega,rfl,by simp [valN]⟩
  case round =>
   obtain ⟨j,hj,rfl,rfl⟩:=hrel
   by_cases hlt:j+1<2
   ·have hjl:j<ys.length:=by rw [Hl.out];omega
    have hcell:=Hy.out j ys[j] (List.getElem?_eq_getElem hjl)
    rw [show o+1+j=o+(j+1) from by omega] at hcell
    have hb:=Hyb.out ys[j] (List.getElem_mem hjl)
    have hv:=valN_bd x (ys.take j) (fun z hz=>Hyb.out z (List.mem_of_mem_take hz)) (by rw [List.length_take];omega)
    have HS:=Lib.hid (valN_step x ys j hjl)
    generalize ys[j]=y at *
    generalize hg:valN x (ys.take j)=v at *
    have Hg:=Lib.hid hg
    clear hg
    go_wp2_with fail
    go_round
    case rel=>exact ⟨j+1,by omega,by go_num,by rw [HS.out]⟩
    case measure=>simp [intOf];omega
   obtain rfl:j=2-1:=by omega
   have e:valN x (ys.take (2-1))=m:=by
    rw [show (2-1:Nat)=ys.length from Hl.out.symm,List.take_length];exact Hm.out
   have hs1:(sizeN m != 2)=false:=by rw [Hs.out];simp
   rw [e]
   clear e
   go_wp2_with (go_at_call 83;refine (rsize_any _ _).mono ?_;rintro e w' ⟨rfl,rfl⟩)
   go_quiet (fail)
   go_wp2
   go_ret3
   exact ⟨rfl,_,rfl⟩
 obtain rfl:k=4:=by rw [h.1] at ht;omega
 have hx1:¬x<64:=by omega
 have hx2:¬x<128:=by omega
 have hx3:¬192≤x:=by omega
 clear h ht
 go_enter Tryz.func48,Tryz.ntmps48
 go_wp2_with fail
 go_loop [6,7] (fun s i=>∃ j:Nat,j+1≤4∧i=.int .i64 ((j:Int)+1)∧s=.int .i64 (valN x (ys.take j))) (fun _ i=>4-(intOf i).toNat)
 case atStart=>exact ⟨0,by omega,rfl,by simp [valN]⟩
 case round =>
  obtain ⟨j,hj,rfl,rfl⟩:=hrel
  by_cases hlt:j+1<4
  ·have hjl:j<ys.length:=by rw [Hl.out];omega
   have hcell:=Hy.out j ys[j] (List.getElem?_eq_getElem hjl)
   rw [show o+1+j=o+(j+1) from by omega] at hcell
   have hb:=Hyb.out ys[j] (List.getElem_mem hjl)
   have hv:=valN_bd x (ys.take j) (fun z hz=>Hyb.out z (List.mem_of_mem_take hz)) (by rw [List.length_take];omega)
   have HS:=Lib.hid (valN_step x ys j hjl)
   generalize ys[j]=y at *
   generalize hg:valN x (ys.take j)=v at *
   have Hg:=Lib.hid hg
   clear hg
   go_wp2_with fail
   go_round
   case rel=>exact ⟨j+1,by omega,by go_num,by rw [HS.out]⟩
   case measure=>simp [intOf];omega
  obtain rfl:j=4-1:=by omega
  have e:valN x (ys.take (4-1))=m:=by
   rw [show (4-1:Nat)=ys.length from Hl.out.symm,List.take_length];exact Hm.out
  have hs1:(sizeN m != 4)=false:=by rw [Hs.out];simp
  rw [e]
  clear e
  go_wp2_with (go_at_call 83;refine (rsize_any _ _).mono ?_;rintro e w' ⟨rfl,rfl⟩)
  go_quiet (fail)
  go_wp2
  go_ret3
  exact ⟨rfl,_,rfl⟩

theorem rget_form (b o n c k:Nat) (x m:Int) (ys:List Int) (w:World) (ht:toldN x=k) (h1k:1≤k) (hk4:k≤4) (hk:k≤n) (hnc:n≤c) (hcm:c≤maxLen)
  (hx:0≤x) (hx255:x≤255)
  (hc:w.cell? ⟨b,o,none⟩=some (.int .u8 x)) (hy:∀ i y,ys[i]?=some y→w.cell? ⟨b,o+1+i,none⟩=some (.int .u8 y)) (hl:ys.length=k-1)
  (hyb:∀ y∈ys,0≤y∧y≤255)
  (hm:valN x ys=m) (hs:¬sizeN m=k) (hc1:¬c=1) :
  Calls Tryz.prog 48 #[.slice (some ⟨b,o,none⟩) n c] w fun e w'=>e=.returned (.tuple #[.int .i64 0,.slice none 0 0,.int .i64 2])∧w=w':=by
 have h0:((n:Int) == 0)=false:=by simp;omega
 have h1:(0:Int)<(n:Int):=by omega
 have hnb:n≤9223372036854775807:=Nat.le_trans hnc hcm
 have hcb:c≤9223372036854775807:=hcm
 have Hm:=Lib.hid hm
 have Hs:=Lib.hid hs
 have Hy:=Lib.hid hy
 have Hyb:=Lib.hid hyb
 have Hl:=Lib.hid hl
 clear hm hs hy hyb hl
 rcases toldN_cases x with h | h | h | h
 ·rw [h.1] at ht;omega
 ·obtain rfl:k=1:=by rw [h.1] at ht;omega
  have hx1:x<64:=by omega
  have hge:decide ((n:Int)<1)=false:=by simp;omega
  clear h ht
  go_enter Tryz.func48,Tryz.ntmps48
  go_wp2_with fail
  go_loop [6,7] (fun s i=>∃ j:Nat,j+1≤1∧i=.int .i64 ((j:Int)+1)∧s=.int .i64 (valN x (ys.take j))) (fun _ i=>1-(intOf i).toNat)
  case atStart=>exact ⟨0,by omega,rfl,by simp [valN]⟩
  case round =>
   obtain ⟨j,hj,rfl,rfl⟩:=hrel
   by_cases hlt:j+1<1
   ·omega
   obtain rfl:j=1-1:=by omega
   have e:valN x (ys.take (1-1))=m:=by
    rw [show (1-1:Nat)=ys.length from Hl.out.symm,List.take_length];exact Hm.out
   have hs1:(sizeN m != 1)=true:=by simpa using Hs.out
   rw [e]
   clear e
   go_wp2_with (go_at_call 83;refine (rsize_any _ _).mono ?_;rintro e w' ⟨rfl,rfl⟩)
   go_ret3
   exact ⟨rfl,rfl⟩
 ·obtain rfl:k=2:=by rw [h.1] at ht;omega
  have hx1:¬x<64:=by omega
  have hx2:x<128:=by omega
  have hge:decide ((n:Int)<2)=false:=by simp;omega
  clear h ht
  go_enter Tryz.func48,Tryz.ntmps48
  go_wp2_with fail
  go_loop [6,7] (fun s i=>∃ j:Nat,j+1≤2∧i=.int .i64 ((j:Int)+1)∧s=.int .i64 (valN x (ys.take j))) (fun _ i=>2-(intOf i).toNat)
  case atStart=>exact ⟨0,by omega,rfl,by simp [valN]⟩
  case round =>
   obtain ⟨j,hj,rfl,rfl⟩:=hrel
   by_cases hlt:j+1<2
   ·have hjl:j<ys.length:=by rw [Hl.out];omega
    have hcell:=Hy.out j ys[j] (List.getElem?_eq_getElem hjl)
    rw [show o+1+j=o+(j+1) from by omega] at hcell
    have hb:=Hyb.out ys[j] (List.getElem_mem hjl)
    have hv:=valN_bd x (ys.take j) (fun z hz=>Hyb.out z (List.mem_of_mem_take hz)) (by rw [List.length_take];omega)
    have HS:=Lib.hid (valN_step x ys j hjl)
    generalize ys[j]=y at *
    generalize hg:valN x (ys.take j)=v at *
    have Hg:=Lib.hid hg
    clear hg
    go_wp2_with fail
    go_round
    case rel=>exact ⟨j+1,by omega,by go_num,by rw [HS.out]⟩
    case measure=>simp [intOf];omega
   obtain rfl:j=2-1:=by omega
   have e:valN x (ys.take (2-1))=m:=by
    rw [show (2-1:Nat)=ys.length from Hl.out.symm,List.take_length];exact Hm.out
   have hs1:(sizeN m != 2)=true:=by simpa using Hs.out
   rw [e]
   clear e
   go_wp2_with (go_at_call 83;refine (rsize_any _ _).mono ?_;rintro e w' ⟨rfl,rfl⟩)
   go_ret3
   exact ⟨rfl,rfl⟩
 obtain rfl:k=4:=by rw [h.1] at ht;omega
 have hx1:¬x<64:=by omega
 have hx2:¬x<128:=by omega
 have hx3:¬192≤x:=by omega
 have hge:decide ((n:Int)<4)=false:=by simp;omega
 clear h ht
 go_enter Tryz.func48,Tryz.ntmps48
 go_wp2_with fail
 go_loop [6,7] (fun s i=>∃ j:Nat,j+1≤4∧i=.int .i64 ((j:Int)+1)∧s=.int .i64 (valN x (ys.take j))) (fun _ i=>4-(intOf i).toNat)
 case atStart=>exact ⟨0,by omega,rfl,by simp [valN]⟩
 case round =>
  obtain ⟨j,hj,rfl,rfl⟩:=hrel
  by_cases hlt:j+1<4
  ·have hjl:j<ys.length:=by rw [Hl.out];omega
   have hcell:=Hy.out j ys[j] (List.getElem?_eq_getElem hjl)
   rw [show o+1+j=o+(j+1) from by omega] at hcell
   have hb:=Hyb.out ys[j] (List.getElem_mem hjl)
   have hv:=valN_bd x (ys.take j) (fun z hz=>Hyb.out z (List.mem_of_mem_take hz)) (by rw [List.length_take];omega)
   have HS:=Lib.hid (valN_step x ys j hjl)
   generalize ys[j]=y at *
   generalize hg:valN x (ys.take j)=v at *
   have Hg:=Lib.hid hg
   clear hg
   go_wp2_with fail
   go_round
   case rel=>exact ⟨j+1,by omega,by go_num,by rw [HS.out]⟩
   case measure=>simp [intOf];omega
  obtain rfl:j=4-1:=by omega
  have e:valN x (ys.take (4-1))=m:=by
   rw [show (4-1:Nat)=ys.length from Hl.out.symm,List.take_length];exact Hm.out
  have hs1:(sizeN m != 4)=true:=by simpa using Hs.out
  rw [e]
  clear e
  go_wp2_with (go_at_call 83;refine (rsize_any _ _).mono ?_;rintro e w' ⟨rfl,rfl⟩)
  go_ret3
  exact ⟨rfl,rfl⟩

theorem rget_bad (A:Option Addr) (n c B:Nat) (xs:List Int) (w:World) (hO:Oct w B A n xs) (hnc:n≤c) (hcm:c≤maxLen) (hE:getE xs≠0) :
  Calls Tryz.prog 48 #[.slice A n c] w fun e w'=>e=.returned (.tuple #[.int .i64 0,.slice none 0 0,.int .i64 (getE xs)])∧w=w':=by
 match xs,hO,hE with
 | [],hO,_ =>
  have hn:n=0:=by have:=hO.1;simpa using this.symm
  subst hn
  exact rget_none A c w
 | x::ys,hO,hE =>
  have hn:ys.length+1=n:=by simpa using hO.1
  obtain ⟨b,o,rfl,hB,hx,hx2,hc,hy,hyb⟩:=hO.tail
  have h0:¬(x::ys).length=0:=by simp
  by_cases hk0:getK (x::ys)=0
  ·have e:getE (x::ys)=2:=by unfold getE;rw [if_neg h0,if_pos hk0]
   rw [e]
   have h192:192≤x:=by
    rw [getK_cons] at hk0
    rcases toldN_cases x with h | h | h | h
    ·exact h.2
    ·rw [h.1] at hk0;simp at hk0
    ·rw [h.1] at hk0;simp at hk0
    rw [h.1] at hk0;simp at hk0
   exact rget_high b o n c x w (by omega) h192 hc
  have ht:toldN x=(getK (x::ys):Nat):=by
   rw [getK_cons]
   rcases toldN_cases x with h | h | h | h<;>rw [h.1]<;>rfl
  have hk4:=getK_le (x::ys)
  by_cases hs:(x::ys).length<getK (x::ys)
  ·have e:getE (x::ys)=1:=by unfold getE;rw [if_neg h0,if_neg hk0,if_pos hs]
   rw [e]
   exact rget_short b o n c _ x w (by omega) ht (by rw [←hn];simpa using hs) hc
  by_cases hz:sizeN (getV (x::ys))=getK (x::ys)
  ·exact absurd (by unfold getE;rw [if_neg h0,if_neg hk0,if_neg hs,if_pos hz]) hE
  have e:getE (x::ys)=2:=by unfold getE;rw [if_neg h0,if_neg hk0,if_neg hs,if_neg hz]
  rw [e]
  have hs':getK (x::ys)≤ys.length+1:=by simpa using hs
  refine rget_form b o n c (getK (x::ys)) x (getV (x::ys)) (ys.take (getK (x::ys)-1)) w ht (by omega) hk4 (by omega) hnc hcm hx hx2 hc
   (fun i y hi=>hy i y ?_) (by rw [List.length_take];omega) (fun y hm=>hyb y (List.mem_of_mem_take hm)) (getV_cons x ys).symm hz ?_
  ·rw [List.getElem?_take] at hi
   split at hi
   ·exact hi
   cases hi
  intro h1
  rcases toldN_cases x with h | h | h | h
  ·rw [getK_cons,h.1] at hk0;simp at hk0
  ·apply hz
   have e1:getK (x::ys)=1:=by rw [getK_cons,h.1];rfl
   rw [getV_cons,e1]
   simp only [valN,List.take_zero,List.foldl_nil,Nat.sub_self]
   rw [show x % 64=x from by omega,sizeN_1 hx (by omega)];rfl
  ·rw [getK_cons,h.1] at hs';simp at hs';omega
  rw [getK_cons,h.1] at hs';simp at hs';omega

theorem rget_good (A:Option Addr) (n c B:Nat) (xs:List Int) (w:World) (hO:Oct w B A n xs) (hnc:n≤c) (hcm:c≤maxLen) (hE:getE xs=0) :
  Calls Tryz.prog 48 #[.slice A n c] w (GotWell w B n c xs):=by
 obtain ⟨h1,h2,h3⟩:=getE_ok hE
 match xs,hO,h1,h2,h3 with
 | [],_,h1,h2,_=>simp at h2;omega
 | x::ys,hO,h1,h2,h3 =>
  have hn:ys.length+1=n:=by simpa using hO.1
  have h2':getK (x::ys)≤ys.length+1:=by simpa using h2
  obtain ⟨b,o,rfl,hB,hx,hx2,hc,hy,hyb⟩:=hO.tail
  have ht:toldN x=(getK (x::ys):Nat):=by
   rw [getK_cons]
   rcases toldN_cases x with h | h | h | h<;>rw [h.1]<;>rfl
  have hk4:=getK_le (x::ys)
  have hy':∀ i y,(ys.take (getK (x::ys)-1))[i]?=some y→w.cell? ⟨b,o+1+i,none⟩=some (.int .u8 y):=fun i y hi=>hy i y (by
   rw [List.getElem?_take] at hi
   split at hi
   ·exact hi
   cases hi)
  have hl':(ys.take (getK (x::ys)-1)).length=getK (x::ys)-1:=by rw [List.length_take];omega
  have hyb':∀ y∈ys.take (getK (x::ys)-1),0≤y∧y≤255:=fun y hm=>hyb y (List.mem_of_mem_take hm)
  by_cases hck:c=getK (x::ys)
  ·have hnk:n=getK (x::ys):=by omega
   subst hck
   rw [hnk] at hO ⊢
   refine (rget_okk b o (getK (x::ys)) x (getV (x::ys)) _ w ht h1 hk4 hx hx2 hc hy' hl' hyb' (getV_cons x ys).symm h3).mono fun e w' ⟨he,hw⟩=>?_
   refine ⟨_,?_,hO.cut _ (by omega) o (fun h=>by omega),hw⟩
   rw [he,Nat.sub_self]
  refine (rget_ok b o n c (getK (x::ys)) x (getV (x::ys)) _ w ht h1 hk4 (by omega) hnc hcm hx hx2 hc hy' hl' hyb' (getV_cons x ys).symm h3 hck).mono fun e w' ⟨he,hw⟩=>?_
  exact ⟨_,he,hO.cut _ (by omega) _ (fun _=>rfl),hw⟩

/- WiRef:
  Contracts of the document's own answers for layer 2 that get: count, GetNum, GetFlag, GetBytes; and its varint Put, with the row as the call's own.
-/
theorem rcount_any (k:Int) (w:World):Calls Tryz.prog 84 #[.int .i64 k] w fun e w'=>e=.returned (.int .i64 (widthK k:Nat))∧w=w':=by
 by_cases h:k<1
 ·have e:((widthK k:Nat):Int)=1:=by unfold widthK;rw [if_pos h];rfl
  rw [e]
  clear e
  go_enter Tryz.func84,Tryz.ntmps84
  go_wp2
  go_ret
  exact ⟨rfl,rfl⟩
 by_cases h4:4<k
 ·have e:((widthK k:Nat):Int)=4:=by unfold widthK;rw [if_neg h,if_pos h4];rfl
  rw [e]
  clear e
  go_enter Tryz.func84,Tryz.ntmps84
  go_wp2
  all_goals (go_ret;exact ⟨rfl,rfl⟩)
 have e:((widthK k:Nat):Int)=k:=by unfold widthK;rw [if_neg h,if_neg h4];omega
 rw [e]
 clear e
 have hc:k=1∨k=2∨k=3∨k=4:=by omega
 clear h h4
 rcases hc with rfl | rfl | rfl | rfl
 all_goals
  go_enter Tryz.func84,Tryz.ntmps84
  go_wp2
  go_ret
  exact ⟨rfl,rfl⟩

theorem rgetNum_short (A:Option Addr) (n c K:Nat) (k:Int) (w:World) (hK:widthK k=K) (h:n<K) :
  Calls Tryz.prog 50 #[.slice A n c,.int .i64 k] w fun e w'=>e=.returned (.tuple #[.int .i64 0,.slice none 0 0,.int .i64 1])∧w=w':=by
 have HK:=Lib.hid hK
 clear hK
 go_enter Tryz.func50,Tryz.ntmps50
 go_wp2_with fail
 refine (rcount_any _ _).mono ?_
 rw [HK.out]
 rintro e w' ⟨rfl,rfl⟩
 go_wp2
 go_ret3
 exact ⟨rfl,rfl⟩

theorem rgetNum_ok (A:Option Addr) (n c B K:Nat) (xs:List Int) (k:Int) (w:World) (hO:Oct w B A n xs) (hnc:n≤c) (hcm:c≤maxLen) (hK:widthK k=K) (h:K≤n) :
  Calls Tryz.prog 50 #[.slice A n c,.int .i64 k] w fun e w'=>e=.returned (.tuple #[.int .i64 (numV (xs.take K)),.slice (cutA A K c) (n-K) (c-K),.int .i64 0])∧∃ d,w'=w.drewN d:=by
 have hk4:=widthK_le k
 rw [hK] at hk4
 have r1:=run_cut_l A n c K K rfl h
 obtain ⟨hl,hb,hc⟩:=hO
 obtain ⟨b,o,rfl,hB,hc⟩:=hc (by omega)
 have Hl:=Lib.hid hl
 have Hb:=Lib.hid hb
 have Hc:=Lib.hid hc
 have HK:=Lib.hid hK
 clear hK hl hb hc
 have h3:decide (n<K)=false:=by simp;omega
 go_enter Tryz.func50,Tryz.ntmps50
 go_wp2_with fail
 refine (rcount_any _ _).mono ?_
 rw [HK.out]
 rintro e w' ⟨rfl,rfl⟩
 go_wp2_with fail
 go_loop [8,9] (fun s i=>∃ j:Nat,j≤K∧i=.int .i64 j∧s=.int .i64 (numV (xs.take j))) (fun _ i=>K-(intOf i).toNat)
 case atStart=>exact ⟨0,Nat.zero_le _,rfl,by simp [numV]⟩
 case round =>
  obtain ⟨j,hj,rfl,rfl⟩:=hrel
  by_cases hlt:j<K
  ·have hjl:j<xs.length:=by rw [Hl.out];omega
   have hcell:=Hc.out j xs[j] (List.getElem?_eq_getElem hjl)
   have hb:=Hb.out xs[j] (List.getElem_mem hjl)
   have hv:=numV_bd (xs.take j) (fun z hz=>Hb.out z (List.mem_of_mem_take hz)) (by rw [List.length_take];omega)
   have HS:=Lib.hid (numV_step xs j hjl)
   generalize xs[j]=y at *
   generalize hg:numV (xs.take j)=v at *
   have Hg:=Lib.hid hg
   clear hg
   go_wp2
   go_round
   case rel=>exact ⟨j+1,by omega,by go_num,by rw [HS.out]⟩
   case measure=>simp [intOf];omega
  obtain rfl:j=K:=by omega
  go_wp2_with fail
  go_quiet (fail)
  go_wp2
  go_ret3
  exact ⟨rfl,_,rfl⟩

theorem rgetNum_any (A:Option Addr) (n c B:Nat) (xs:List Int) (k:Int) (w:World) (hO:Oct w B A n xs) (hnc:n≤c) (hcm:c≤maxLen) :
  Calls Tryz.prog 50 #[.slice A n c,.int .i64 k] w (GotInt w B (numM xs k) (numR xs k) (numE xs k)):=by
 have hl:=hO.1
 by_cases h:n<widthK k
 ·refine (rgetNum_short A n c _ k w rfl h).mono ?_
  rintro e w' ⟨rfl,rfl⟩
  rw [numM,numR,numE,if_pos (by omega),if_pos (by omega),if_pos (by omega)]
  exact ⟨none,0,0,rfl,Nat.le_refl _,Nat.zero_le _,Oct.nil _ _ _,Below.refl _ _⟩
 refine (rgetNum_ok A n c B _ xs k w hO hnc hcm rfl (by omega)).mono ?_
 rintro e w' ⟨rfl,d,rfl⟩
 rw [numM,numR,numE,if_neg (by omega),if_neg (by omega),if_neg (by omega)]
 exact ⟨_,_,_,rfl,by omega,by omega,(hO.cutA _ c hnc (by omega)).drewN d,below_of_drewN w d⟩

theorem rgetFlag_any (A:Option Addr) (n c B:Nat) (xs:List Int) (w:World) (hO:Oct w B A n xs) (hnc:n≤c) (hcm:c≤maxLen) :
  Calls Tryz.prog 49 #[.slice A n c] w (GotFlag w B (flagB xs) (flagR xs) (flagE xs)):=by
 have hl:=hO.1
 match xs,hO,hl with
 | [],hO,hl =>
  have hn:n=0:=by simpa using hl.symm
  subst hn
  clear hl hO
  go_enter Tryz.func49,Tryz.ntmps49
  go_wp2
  go_ret3
  exact ⟨none,0,0,rfl,Nat.le_refl _,Nat.zero_le _,Oct.nil _ _ _,Below.refl _ _⟩
 | x::ys,hO,hl =>
  have hn:1≤n:=by rw [←hl];simp
  have hx:=hO.2.1 x (by simp)
  have r1:=run_cut_l A n c 1 1 rfl hn
  have HO:=Lib.hid (hO.cutA 1 c hnc hn)
  obtain ⟨b,o,rfl,hB,hc⟩:=hO.2.2 (by omega)
  have hcell:=hc 0 x rfl
  rw [Nat.add_zero] at hcell
  clear hc hO
  by_cases h1:1<x
  ·have e1:flagE (x::ys)=2:=by simp [flagE,h1]
   have e2:flagR (x::ys)=[]:=by simp [flagR,e1]
   have e3:flagB (x::ys)=false:=by simp [flagB];omega
   rw [e1,e2,e3]
   clear hl e1 e2 e3 r1
   go_enter Tryz.func49,Tryz.ntmps49
   go_wp2
   go_ret3
   exact ⟨none,0,0,rfl,Nat.le_refl _,Nat.zero_le _,Oct.nil _ _ _,Below.refl _ _⟩
  have e1:flagE (x::ys)=0:=by simp [flagE,h1]
  have e2:flagR (x::ys)=ys:=by simp [flagR,e1]
  rw [e1,e2]
  have hc:x=0∨x=1:=by omega
  clear hl e1 e2 h1
  rcases hc with rfl | rfl
  all_goals
   go_enter Tryz.func49,Tryz.ntmps49
   go_wp2_with fail
   go_quiet (fail)
   go_wp2
   go_ret3
   exact ⟨_,_,_,rfl,by omega,by omega,HO.out.drewN _,below_of_drewN w _⟩

theorem rget_sl (A:Option Addr) (n c B:Nat) (xs:List Int) (w:World) (hO:Oct w B A n xs) (hnc:n≤c) (hcm:c≤maxLen):Calls Tryz.prog 48 #[.slice A n c] w (GotSl w B xs):=by
 by_cases hE:getE xs=0
 ·refine (rget_good A n c B xs w hO hnc hcm hE).mono ?_
  rintro e w' ⟨A',he,h,d,rfl⟩
  refine ⟨A',n-getK xs,c-getK xs,?_,by omega,by omega,?_,below_of_drewN w d⟩
  ·rw [he,gotM,if_pos hE,hE]
  rw [gotR,if_pos hE];exact h.drewN d
 refine (rget_bad A n c B xs w hO hnc hcm hE).mono ?_
 rintro e w' ⟨he,rfl⟩
 refine ⟨none,0,0,?_,Nat.le_refl _,Nat.zero_le _,?_,Below.refl _ _⟩
 ·rw [he,gotM,if_neg hE]
 rw [gotR,if_neg hE];exact Oct.nil _ _ _

theorem rgetBytes_any (A:Option Addr) (n c B:Nat) (xs:List Int) (w:World) (hO:Oct w B A n xs) (hnc:n≤c) (hcm:c≤maxLen) (hB:B≤w.heap.size) :
  Calls Tryz.prog 21 #[.slice A n c] w (GotTwo w B (bytesP xs) (bytesR xs) (bytesE xs)):=by
 have HO:=Lib.hid hO
 have hV:=getV_nonneg xs hO.2.1
 clear hO
 by_cases hE:getE xs=0
 ·have hM:gotM xs=getV xs:=by rw [gotM,if_pos hE]
  obtain ⟨V,hVn⟩:=Int.eq_ofNat_of_zero_le hV
  by_cases h1:1048576<getV xs
  ·have e1:bytesE xs=4:=by simp [bytesE,hE,h1]
   have e2:bytesP xs=[]:=by simp [bytesP,e1]
   have e3:bytesR xs=[]:=by simp [bytesR,e1]
   rw [e1,e2,e3]
   have Hc:=Lib.hid (rget_sl A n c B xs w HO.out hnc hcm)
   unfold GotSl at Hc
   rw [hE,hM,hVn] at Hc
   rw [hVn] at h1
   clear e1 e2 e3 hE hM hVn hV
   go_enter Tryz.func21,Tryz.ntmps21
   go_wp2_with fail
   refine Hc.out.mono ?_
   rintro e w' ⟨A1,n1,c1,rfl,hn1,hc1,hO1,hb1⟩
   clear hO1
   go_wp2
   go_ret3
   exact ⟨none,0,0,none,0,0,rfl,Nat.le_refl _,Nat.zero_le _,Nat.le_refl _,Nat.zero_le _,Oct.nil _ _ _,Oct.nil _ _ _,hb1⟩
  by_cases h2:((gotR xs).length:Int)<getV xs
  ·have e1:bytesE xs=1:=by simp [bytesE,hE,h1,h2]
   have e2:bytesP xs=[]:=by simp [bytesP,e1]
   have e3:bytesR xs=[]:=by simp [bytesR,e1]
   rw [e1,e2,e3]
   have Hc:=Lib.hid (rget_sl A n c B xs w HO.out hnc hcm)
   unfold GotSl at Hc
   rw [hE,hM,hVn] at Hc
   rw [hVn] at h1 h2
   clear e1 e2 e3 hE hM hVn hV
   go_enter Tryz.func21,Tryz.ntmps21
   go_wp2_with fail
   refine Hc.out.mono ?_
   rintro e w' ⟨A1,n1,c1,rfl,hn1,hc1,hO1,hb1⟩
   have h3:n1<V:=by rw [←hO1.1];omega
   clear hO1 h2
   go_wp2
   go_ret3
   exact ⟨none,0,0,none,0,0,rfl,Nat.le_refl _,Nat.zero_le _,Nat.le_refl _,Nat.zero_le _,Oct.nil _ _ _,Oct.nil _ _ _,hb1⟩
  have e1:bytesE xs=0:=by simp [bytesE,hE,h1,h2]
  have e2:bytesP xs=(gotR xs).take V:=by simp [bytesP,e1,hVn]
  have e3:bytesR xs=(gotR xs).drop V:=by simp [bytesR,e1,hVn]
  rw [e1,e2,e3]
  have Hc:=Lib.hid (rget_sl A n c B xs w HO.out hnc hcm)
  unfold GotSl at Hc
  rw [hE,hM,hVn] at Hc
  rw [hVn] at h1 h2
  generalize gotR xs=rs at *
  clear e1 e2 e3 hE hM hVn hV
  go_enter Tryz.func21,Tryz.ntmps21
  go_wp2_with fail
  refine Hc.out.mono ?_
  rintro e w1 ⟨A1,n1,c1,rfl,hn1,hc1,hO1,hb1⟩
  have h3:V≤n1:=by rw [←hO1.1];omega
  have h4:decide (n1<V)=false:=by simp;omega
  have h5:decide ((1048576:Int)<(V:Int))=false:=by simpa using h1
  have HO1:=Lib.hid hO1
  have r1:=run_cut_l A1 n1 c1 V V rfl h3
  have r2:=run_cut_h A1 n1 c1 V V rfl (by omega)
  clear hO1 h2
  go_wp2_with fail
  go_quiet (fail)
  go_wp2
  go_ret3
  exact ⟨_,_,_,_,_,_,rfl,by omega,by omega,by omega,by omega,(HO1.out.upto V h3).drewN _,(HO1.out.cutA V c1 hn1 h3).drewN _,below_drewN hb1 _⟩
 have e1:bytesE xs=getE xs:=by simp [bytesE,hE]
 have e2:bytesP xs=[]:=by simp [bytesP,e1,hE]
 have e3:bytesR xs=[]:=by simp [bytesR,e1,hE]
 rw [e1,e2,e3]
 have hne:(getE xs != 0)=true:=by simpa using hE
 have Hc:=Lib.hid (rget_bad A n c B xs w HO.out hnc hcm hE)
 generalize getE xs=ee at *
 clear e1 e2 e3 hE hV
 go_enter Tryz.func21,Tryz.ntmps21
 go_wp2_with fail
 refine Hc.out.mono ?_
 rintro e w' ⟨rfl,rfl⟩
 go_wp2
 go_ret3
 exact ⟨none,0,0,none,0,0,rfl,Nat.le_refl _,Nat.zero_le _,Nat.le_refl _,Nat.zero_le _,Oct.nil _ _ _,Oct.nil _ _ _,Below.refl _ _⟩

theorem rputo0 (A:Option Addr) (n c B:Nat) (xs:List Int) (m:Int) (w:World) (hO:Oct w B A n xs) (hB:B≤w.heap.size) (hn:n≤100000) (h0:m<0∨1073741823<m) :
    Calls Tryz.prog 73 #[.slice A n c,.int .i64 m] w (OwnSl w w.heap.size (xs++octN m)):=by
  have hs:sizeN m=0:=sizeN_0 h0
  have HN:Hid (octN m=[]):=by show octN m=_;unfold octN;rw [hs];rfl
  have HX:=Lib.hid hO.2.1
  have HL:=Lib.hid hO.1
  have HY:Hid (∀ y∈xs++octN m,0≤y∧y≤255):=fun y hy=>by
    rcases List.mem_append.1 hy with h | h
    · exact HX.out y h
    · exact octN_bytes m y h
  have OW:Hid ((w.alloc (.cells #[] 5)).ownsRow w.heap.size 5 1 (.slice (some ⟨w.heap.size,0,none⟩) 0 0) 0 []) :=
    ⟨rfl,.inr ⟨w.heap.size,0,#[],rfl,Nat.le_refl _,heap_alloc_new w _,Nat.le_refl _,Nat.zero_le _,rfl,rfl⟩⟩
  have HO:=Lib.hid hO
  clear hO
  go_enter Tryz.func73,Tryz.ntmps73
  go_wp2_with (first
    | (at_builtin
       refine wpList_append_oct _ rfl (.tmp 6) (.tmp 7) rfl rfl w.heap.size (.slice (some ⟨w.heap.size,0,none⟩) 0 0) [] xs A n c B rfl rfl ?hown ?hO ?hb ?hbase ?_
       case hown=>exact OW.out
       case hO=>exact HO.out.below (((Below.refl _ _).alloc (Nat.le_refl _) _).mono hB)
       case hb=>simp;omega
       case hbase=>simp
       intro v3 w3 hj3
       have hb3:=joined_below OW.out hj3 ((Below.refl _ _).alloc (Nat.le_refl _) _) (by simp)
       have h3:=hj3.1
       rw [List.nil_append,List.length_nil,Nat.zero_add] at h3
       have H3:=Lib.hid h3
       clear h3 hj3)
    | (go_at_call 83;refine (rsize_any _ _).mono ?_;rintro e w' ⟨rfl,rfl⟩))
  go_ret
  rw [HN.out,List.append_nil]
  exact ⟨_,rfl,H3.out,hb3.1,hb3.2⟩

theorem rputo1 (A:Option Addr) (n c B:Nat) (xs:List Int) (m:Int) (w:World) (hO:Oct w B A n xs) (hB:B≤w.heap.size) (hn:n≤100000) (h0:0≤m) (h1:m≤63) :
    Calls Tryz.prog 73 #[.slice A n c,.int .i64 m] w (OwnSl w w.heap.size (xs++octN m)):=by
  have hs:sizeN m=1:=sizeN_1 h0 h1
  have HN:Hid (octN m=[m]):=by show octN m=_;unfold octN;rw [hs];rfl
  have HX:=Lib.hid hO.2.1
  have HL:=Lib.hid hO.1
  have HY:Hid (∀ y∈xs++octN m,0≤y∧y≤255):=fun y hy=>by
    rcases List.mem_append.1 hy with h | h
    · exact HX.out y h
    · exact octN_bytes m y h
  have OW:Hid ((w.alloc (.cells #[] 5)).ownsRow w.heap.size 5 1 (.slice (some ⟨w.heap.size,0,none⟩) 0 0) 0 []) :=
    ⟨rfl,.inr ⟨w.heap.size,0,#[],rfl,Nat.le_refl _,heap_alloc_new w _,Nat.le_refl _,Nat.zero_le _,rfl,rfl⟩⟩
  have HO:=Lib.hid hO
  clear hO
  go_enter Tryz.func73,Tryz.ntmps73
  go_wp2_with (first
    | (at_builtin
       refine wpList_append_oct _ rfl (.tmp 6) (.tmp 7) rfl rfl w.heap.size (.slice (some ⟨w.heap.size,0,none⟩) 0 0) [] xs A n c B rfl rfl ?hown ?hO ?hb ?hbase ?_
       case hown=>exact OW.out
       case hO=>exact HO.out.below (((Below.refl _ _).alloc (Nat.le_refl _) _).mono hB)
       case hb=>simp;omega
       case hbase=>simp
       intro v3 w3 hj3
       have hb3:=joined_below OW.out hj3 ((Below.refl _ _).alloc (Nat.le_refl _) _) (by simp)
       have h3:=hj3.1
       rw [List.nil_append,List.length_nil,Nat.zero_add] at h3
       have H3:=Lib.hid h3
       clear h3 hj3)
    | (go_at_call 83;refine (rsize_any _ _).mono ?_;rintro e w' ⟨rfl,rfl⟩)
    | (at_builtin
       refine wpList_append_oct _ rfl (.tmp 13) (.tmp 16) rfl rfl w.heap.size v3 xs [m] (some ⟨w3.heap.size,0,none⟩) 1 1 (w3.heap.size+1) rfl rfl ?hown ?hO ?hb ?hbase ?_
       case hown=>exact H3.out.alloc _
       case hO=>exact Oct.new w3 [m] (by rw [←HN.out];exact octN_bytes m)
       case hb=>rw [HL.out];omega
       case hbase=>have:=hb3.2;simp;omega
       intro v4 w4 hj4
       have hb4:=joined_below (H3.out.alloc _) hj4 (hb3.1.alloc hb3.2 _) (by have:=hb3.2;simp;omega)
       have h4:=hj4.1
       rw [←HN.out] at h4
       have H4:=Lib.hid h4
       clear h4 hj4))
  go_ret
  exact ⟨_,rfl,by rw [List.length_append];exact H4.out,hb4.1,hb4.2⟩

theorem rputo2 (A:Option Addr) (n c B:Nat) (xs:List Int) (m:Int) (w:World) (hO:Oct w B A n xs) (hB:B≤w.heap.size) (hn:n≤100000) (h0:63<m) (h1:m≤16383) :
    Calls Tryz.prog 73 #[.slice A n c,.int .i64 m] w (OwnSl w w.heap.size (xs++octN m)):=by
  have hs:sizeN m=2:=sizeN_2 h0 h1
  have HN:Hid (octN m=[64+m / 256,m % 256]):=by show octN m=_;unfold octN;rw [hs];rfl
  have HX:=Lib.hid hO.2.1
  have HL:=Lib.hid hO.1
  have HY:Hid (∀ y∈xs++octN m,0≤y∧y≤255):=fun y hy=>by
    rcases List.mem_append.1 hy with h | h
    · exact HX.out y h
    · exact octN_bytes m y h
  have OW:Hid ((w.alloc (.cells #[] 5)).ownsRow w.heap.size 5 1 (.slice (some ⟨w.heap.size,0,none⟩) 0 0) 0 []) :=
    ⟨rfl,.inr ⟨w.heap.size,0,#[],rfl,Nat.le_refl _,heap_alloc_new w _,Nat.le_refl _,Nat.zero_le _,rfl,rfl⟩⟩
  have HO:=Lib.hid hO
  clear hO
  go_enter Tryz.func73,Tryz.ntmps73
  go_wp2_with (first
    | (at_builtin
       refine wpList_append_oct _ rfl (.tmp 6) (.tmp 7) rfl rfl w.heap.size (.slice (some ⟨w.heap.size,0,none⟩) 0 0) [] xs A n c B rfl rfl ?hown ?hO ?hb ?hbase ?_
       case hown=>exact OW.out
       case hO=>exact HO.out.below (((Below.refl _ _).alloc (Nat.le_refl _) _).mono hB)
       case hb=>simp;omega
       case hbase=>simp
       intro v3 w3 hj3
       have hb3:=joined_below OW.out hj3 ((Below.refl _ _).alloc (Nat.le_refl _) _) (by simp)
       have h3:=hj3.1
       rw [List.nil_append,List.length_nil,Nat.zero_add] at h3
       have H3:=Lib.hid h3
       clear h3 hj3)
    | (go_at_call 83;refine (rsize_any _ _).mono ?_;rintro e w' ⟨rfl,rfl⟩)
    | (at_builtin
       refine wpList_append_oct _ rfl (.tmp 20) (.tmp 28) rfl rfl w.heap.size v3 xs [64+m / 256,m % 256] (some ⟨w3.heap.size,0,none⟩) 2 2 (w3.heap.size+1) rfl rfl ?hown ?hO ?hb ?hbase ?_
       case hown=>exact H3.out.alloc _
       case hO=>exact Oct.new w3 [64+m / 256,m % 256] (by rw [←HN.out];exact octN_bytes m)
       case hb=>rw [HL.out];omega
       case hbase=>have:=hb3.2;simp;omega
       intro v4 w4 hj4
       have hb4:=joined_below (H3.out.alloc _) hj4 (hb3.1.alloc hb3.2 _) (by have:=hb3.2;simp;omega)
       have h4:=hj4.1
       rw [←HN.out] at h4
       have H4:=Lib.hid h4
       clear h4 hj4))
  go_ret
  exact ⟨_,rfl,by rw [List.length_append];exact H4.out,hb4.1,hb4.2⟩

theorem rputo4 (A:Option Addr) (n c B:Nat) (xs:List Int) (m:Int) (w:World) (hO:Oct w B A n xs) (hB:B≤w.heap.size) (hn:n≤100000) (h0:16383<m) (h1:m≤1073741823) :
    Calls Tryz.prog 73 #[.slice A n c,.int .i64 m] w (OwnSl w w.heap.size (xs++octN m)):=by
  have hs:sizeN m=4:=sizeN_4 h0 h1
  have HN:Hid (octN m=[128+m / 16777216,m / 65536 % 256,m / 256 % 256,m % 256]):=by show octN m=_;unfold octN;rw [hs];rfl
  have HX:=Lib.hid hO.2.1
  have HL:=Lib.hid hO.1
  have HY:Hid (∀ y∈xs++octN m,0≤y∧y≤255):=fun y hy=>by
    rcases List.mem_append.1 hy with h | h
    · exact HX.out y h
    · exact octN_bytes m y h
  have OW:Hid ((w.alloc (.cells #[] 5)).ownsRow w.heap.size 5 1 (.slice (some ⟨w.heap.size,0,none⟩) 0 0) 0 []) :=
    ⟨rfl,.inr ⟨w.heap.size,0,#[],rfl,Nat.le_refl _,heap_alloc_new w _,Nat.le_refl _,Nat.zero_le _,rfl,rfl⟩⟩
  have HO:=Lib.hid hO
  clear hO
  go_enter Tryz.func73,Tryz.ntmps73
  go_wp2_with (first
    | (at_builtin
       refine wpList_append_oct _ rfl (.tmp 6) (.tmp 7) rfl rfl w.heap.size (.slice (some ⟨w.heap.size,0,none⟩) 0 0) [] xs A n c B rfl rfl ?hown ?hO ?hb ?hbase ?_
       case hown=>exact OW.out
       case hO=>exact HO.out.below (((Below.refl _ _).alloc (Nat.le_refl _) _).mono hB)
       case hb=>simp;omega
       case hbase=>simp
       intro v3 w3 hj3
       have hb3:=joined_below OW.out hj3 ((Below.refl _ _).alloc (Nat.le_refl _) _) (by simp)
       have h3:=hj3.1
       rw [List.nil_append,List.length_nil,Nat.zero_add] at h3
       have H3:=Lib.hid h3
       clear h3 hj3)
    | (go_at_call 83;refine (rsize_any _ _).mono ?_;rintro e w' ⟨rfl,rfl⟩)
    | (at_builtin
       refine wpList_append_oct _ rfl (.tmp 32) (.tmp 48) rfl rfl w.heap.size v3 xs [128+m / 16777216,m / 65536 % 256,m / 256 % 256,m % 256] (some ⟨w3.heap.size,0,none⟩) 4 4 (w3.heap.size+1) rfl rfl ?hown ?hO ?hb ?hbase ?_
       case hown=>exact H3.out.alloc _
       case hO=>exact Oct.new w3 [128+m / 16777216,m / 65536 % 256,m / 256 % 256,m % 256] (by rw [←HN.out];exact octN_bytes m)
       case hb=>rw [HL.out];omega
       case hbase=>have:=hb3.2;simp;omega
       intro v4 w4 hj4
       have hb4:=joined_below (H3.out.alloc _) hj4 (hb3.1.alloc hb3.2 _) (by have:=hb3.2;simp;omega)
       have h4:=hj4.1
       rw [←HN.out] at h4
       have H4:=Lib.hid h4
       clear h4 hj4))
  go_ret
  exact ⟨_,rfl,by rw [List.length_append];exact H4.out,hb4.1,hb4.2⟩

theorem rputo_any (A:Option Addr) (n c B:Nat) (xs:List Int) (m:Int) (w:World) (hO:Oct w B A n xs) (hB:B≤w.heap.size) (hn:n≤100000):Calls Tryz.prog 73 #[.slice A n c,.int .i64 m] w (OwnSl w w.heap.size (xs++octN m)):=by
 rcases sizeN_cases m with h | h | h | h
 ·exact rputo0 A n c B xs m w hO hB hn h.2
 ·exact rputo1 A n c B xs m w hO hB hn h.2.1 h.2.2
 ·exact rputo2 A n c B xs m w hO hB hn h.2.1 h.2.2
 exact rputo4 A n c B xs m w hO hB hn h.2.1 h.2.2
/- WiRefP:
  Contracts of the document's own answers for layer 2 that put: PutNum, PutFlag, PutBytes, PutNums.
-/
theorem rputNum_any (A:Option Addr) (n c B:Nat) (xs:List Int) (m k:Int) (w:World) (hO:Oct w B A n xs) (hB:B≤w.heap.size) (hn:n≤100000) :
    Calls Tryz.prog 70 #[.slice A n c,.int .i64 m,.int .i64 k] w (PutSl w (xs++numOct m (widthK k))):=by
  have hk:=widthK_le k
  have HX:=Lib.hid hO.2.1
  have HL:=Lib.hid hO.1
  have OW:Hid ((w.alloc (.cells #[] 5)).ownsRow w.heap.size 5 1 (.slice (some ⟨w.heap.size,0,none⟩) 0 0) 0 []) :=
    ⟨rfl,.inr ⟨w.heap.size,0,#[],rfl,Nat.le_refl _,heap_alloc_new w _,Nat.le_refl _,Nat.zero_le _,rfl,rfl⟩⟩
  have HO:=Lib.hid hO
  clear hO
  obtain ⟨K,hK⟩:∃ K,widthK k=K:=⟨_,rfl⟩
  have HK:=Lib.hid hK
  rw [hK] at hk ⊢
  clear hK
  have HN:=Lib.hid (numOct_length m K)
  have hxl:xs.length≤100000:=by rw [HL.out];exact hn
  go_enter Tryz.func70,Tryz.ntmps70
  go_wp2_with (first
    | (at_builtin
       refine wpList_append_oct _ rfl (.tmp 9) (.tmp 10) rfl rfl w.heap.size (.slice (some ⟨w.heap.size,0,none⟩) 0 0) [] xs A n c B rfl rfl ?hown ?hO ?hb ?hbase ?_
       case hown=>exact OW.out
       case hO=>exact HO.out.below (((Below.refl _ _).alloc (Nat.le_refl _) _).mono hB)
       case hb=>simp;omega
       case hbase=>simp
       intro v3 w3 hj3
       have hb3:=joined_below OW.out hj3 ((Below.refl _ _).alloc (Nat.le_refl _) _) (by simp)
       have h3:=hj3.1
       rw [List.nil_append,List.length_nil,Nat.zero_add] at h3
       have H3:=Lib.hid h3
       clear h3 hj3)
    | (go_at_call 84;refine (rcount_any _ _).mono ?_;rw [HK.out];rintro e w' ⟨rfl,rfl⟩))
  go_loopw [7,8] (fun u i w'=>∃ j:Nat,j≤K∧i=.int .i64 ((K:Int)-1-j)∧Hid (w'.ownsRow w.heap.size 5 1 u (xs.length+j) ((xs++(numOct m K).take j).map (Value.int .u8)))∧Below w.heap.size w w'∧w.heap.size≤w'.heap.size) (fun _ i _=>(intOf i+1).toNat)
  case atStart=>exact ⟨0,Nat.zero_le _,by go_num,Lib.hid (by simpa using H3.out),hb3.1,hb3.2⟩
  case round =>
    obtain ⟨j,hj,rfl,H1,hb1,hs1⟩:=hrel
    by_cases hlt:j<K
    · have HNN:=Lib.hid (numOct_get m K j hlt)
      have HT:Hid ((xs++(numOct m K).take j).length=xs.length+j):=by
        show _=_
        rw [List.length_append,List.length_take,HN.out];omega
      obtain ⟨r,hr⟩:∃ r:Nat,K=j+r+1:=⟨K-1-j,by omega⟩
      have er:(K:Int)-1-j=(r:Int):=by omega
      have er2:K-1-j=r:=by omega
      rw [er]
      rw [er2] at HNN
      have hr1:j+r+1≤K:=by omega
      have hr2:K≤j+r+1:=by omega
      clear er er2 hr
      obtain ⟨y,hy⟩:∃ y,m / (2:Int) ^ (8*r) % 256=y:=⟨_,rfl⟩
      have hA:bits .and .i64 (m / (2:Int) ^ (8*r)) 255=y:=by rw [and_255,hy]
      have hy1:0≤y∧y≤255:=by omega
      rw [hy] at HNN
      clear hy
      have hr3:r≤3:=by omega
      go_wp2_with (at_builtin
                   refine wpList_append_oct _ rfl (.tmp 19) (.tmp 27) rfl rfl w.heap.size _ (xs++(numOct m K).take j) [y] (some ⟨wr.heap.size,0,none⟩) 1 1 (wr.heap.size+1) rfl rfl ?hown ?hO ?hb ?hbase ?_
                   case hown=>rw [HT.out];exact H1.out.alloc _
                   case hO=>exact Oct.new wr [y] (by intro z hz;simp only [List.mem_cons,List.not_mem_nil,or_false] at hz;omega)
                   case hb=>rw [HT.out];omega
                   case hbase=>simp;omega
                   intro v4 w4 hj4
                   have hb4:=joined_below (H1.out.alloc _) hj4 (hb1.alloc hs1 _) (by simp;omega)
                   have h4:=hj4.1
                   rw [List.append_assoc,←HNN.out,HT.out] at h4
                   have H4:=Lib.hid h4
                   clear h4 hj4)
      go_roundw
      case rel=>exact ⟨j+1,by omega,by go_num,H4,hb4.1,hb4.2⟩
      case measure=>simp [intOf]<;>omega
    · obtain rfl:j=K:=by omega
      have e:(numOct m j).take j=numOct m j:=by
        conv=>lhs;arg 1;rw [←HN.out]
        rw [List.take_length]
      rw [e] at H1
      clear e
      have ei:(j:Int)-1-j=-1:=by omega
      rw [ei]
      clear ei
      go_wp2
      go_ret
      have hy:∀ y∈xs++numOct m j,0≤y∧y≤255:=fun y hy=>by
        rcases List.mem_append.1 hy with h | h
        · exact HX.out y h
        · exact numOct_bytes m j y h
      obtain ⟨A5,c5,rfl,h1,h2,h3⟩:=own_sl H1.out hy
      exact ⟨A5,_,c5,rfl,h1,h2,h3,hb1⟩

theorem rputFlag_any (A:Option Addr) (n c B:Nat) (xs:List Int) (b:Bool) (w:World) (hO:Oct w B A n xs) (hB:B≤w.heap.size) (hn:n≤100000) :
  Calls Tryz.prog 69 #[.slice A n c,.bool b] w (PutSl w (xs++flagOct b)):=by
 have HO:=Lib.hid hO
 clear hO
 cases b
 ·go_enter Tryz.func69,Tryz.ntmps69
  go_wp2_with fail
  refine (rputNum_any A n c B xs 0 1 _ HO.out hB hn).mono ?_
  rintro e w1 ⟨A1,n1,c1,rfl,h1,h2,h3,hb⟩
  have H3:=Lib.hid h3
  clear h3
  go_wp2
  go_ret
  exact ⟨A1,n1,c1,rfl,h1,h2,H3.out,hb⟩
 go_enter Tryz.func69,Tryz.ntmps69
 go_wp2_with fail
 refine (rputNum_any A n c B xs 1 1 _ HO.out hB hn).mono ?_
 rintro e w1 ⟨A1,n1,c1,rfl,h1,h2,h3,hb⟩
 have H3:=Lib.hid h3
 clear h3
 go_wp2
 go_ret
 exact ⟨A1,n1,c1,rfl,h1,h2,H3.out,hb⟩

theorem rputBytes_any (A A2:Option Addr) (n c n2 c2 B:Nat) (xs vs:List Int) (w:World) (hO:Oct w B A n xs) (hV:Oct w B A2 n2 vs) (hB:B≤w.heap.size) (hn:n≤90000) (hn2:n2≤90000) :
    Calls Tryz.prog 33 #[.slice A n c,.slice A2 n2 c2] w (PutSl w (xs++bytesOct vs)):=by
  have HX:=Lib.hid hO.2.1
  have HVb:=Lib.hid hV.2.1
  have HL:=Lib.hid hO.1
  have HL2:=Lib.hid hV.1
  have HB:Hid (bytesOct vs=octN (n2:Int)++vs):=by show _=_;rw [bytesOct_small (by rw [hV.1];omega),hV.1]
  have OW:Hid ((w.alloc (.cells #[] 5)).ownsRow w.heap.size 5 1 (.slice (some ⟨w.heap.size,0,none⟩) 0 0) 0 []) :=
    ⟨rfl,.inr ⟨w.heap.size,0,#[],rfl,Nat.le_refl _,heap_alloc_new w _,Nat.le_refl _,Nat.zero_le _,rfl,rfl⟩⟩
  have HO:=Lib.hid hO
  have HV:=Lib.hid hV
  have h4:=octN_le (n2:Int)
  clear hO hV
  go_enter Tryz.func33,Tryz.ntmps33
  go_wp2_with (first
    | (at_builtin
       refine wpList_append_oct _ rfl (.tmp 6) (.tmp 7) rfl rfl w.heap.size (.slice (some ⟨w.heap.size,0,none⟩) 0 0) [] xs A n c B rfl rfl ?hown ?hO ?hb ?hbase ?_
       case hown=>exact OW.out
       case hO=>exact HO.out.below (((Below.refl _ _).alloc (Nat.le_refl _) _).mono hB)
       case hb=>simp;omega
       case hbase=>simp
       intro v3 w3 hj3
       have hb3:=joined_below OW.out hj3 ((Below.refl _ _).alloc (Nat.le_refl _) _) (by simp)
       have h3:=hj3.1
       rw [List.nil_append,List.length_nil,Nat.zero_add,HL.out] at h3
       obtain ⟨A3,c3,rfl,g31,g32,hO3⟩:=own_sl h3 HX.out
       have H3:=Lib.hid hO3
       clear h3 hj3 hO3)
    | (go_at_call 73
       refine (rputo_any A3 n c3 w3.heap.size xs (n2:Int) w3 H3.out (Nat.le_refl _) (by omega)).mono ?_
       rintro e w4 ⟨v4,rfl,hw4,hb4,hs4⟩
       have H4:=Lib.hid hw4
       clear hw4)
    | (at_builtin
       refine wpList_append_oct _ rfl (.tmp 17) (.tmp 18) rfl rfl w3.heap.size v4 (xs++octN (n2:Int)) vs A2 n2 c2 B rfl rfl ?hown ?hO ?hb ?hbase ?_
       case hown=>exact H4.out
       case hO=>exact HV.out.below ((hb3.1.trans (hb4.mono hb3.2)).mono hB)
       case hb=>rw [List.length_append,HL.out];omega
       case hbase=>exact hs4
       intro v5 w5 hj5
       have hb5:=joined_below H4.out hj5 hb4 hs4
       have h5:=hj5.1
       rw [List.append_assoc,←HB.out] at h5
       have H5:=Lib.hid h5
       clear h5 hj5))
  go_ret
  have hy:∀ y∈xs++bytesOct vs,0≤y∧y≤255:=fun y hy=>by
    rcases List.mem_append.1 hy with h | h
    · exact HX.out y h
    · exact bytesOct_bytes HVb.out y h
  obtain ⟨A6,c6,rfl,h1,h2,h3⟩:=own_sl H5.out hy
  exact ⟨A6,_,c6,rfl,h1,h2,h3,hb3.1.trans (hb5.1.mono hb3.2)⟩

set_option maxHeartbeats 1000000 in
theorem rputNums_any (A A2:Option Addr) (n c n2 c2 B:Nat) (xs ls:List Int) (w:World) (hO:Oct w B A n xs) (hV:Nums w B A2 n2 ls) (hB:B≤w.heap.size) (hn:n≤90000) (hn2:n2≤20000) :
  Calls Tryz.prog 110 #[.slice A n c,.slice A2 n2 c2] w (PutSl w (xs++bytesOct (numsOct ls))):=by
 have HL:=Lib.hid hV.1
 have HO:=Lib.hid hO
 have HV:=Lib.hid hV
 clear hO hV
 go_enter Tryz.func110,Tryz.ntmps110
 go_wp2_with fail
 go_loopw [5,6] (fun u i w'=>∃ (j:Nat) (A':Option Addr) (n' c':Nat),j≤n2∧i=.int .i64 j∧u=.slice A' n' c'∧Hid (Oct w' w'.heap.size A' n' (numsOct (ls.take j)))∧Below w.heap.size w w') (fun _ i _=>n2-(intOf i).toNat)
 case atStart=>exact ⟨0,none,0,0,Nat.zero_le _,rfl,rfl,Lib.hid (Oct.nil _ _ _),Below.refl _ _⟩
 case round =>
  obtain ⟨j,A',n',c',hj,rfl,rfl,H1,hb1⟩:=hrel
  have k1:=hb1.size
  obtain rfl:n'=4*j:=by
   rw [←H1.out.1,numsOct_length,List.length_take,HL.out];omega
  by_cases hlt:j<n2
  ·have hjl:j<ls.length:=by rw [HL.out];exact hlt
   obtain ⟨b2,o2,ha,hB2,hc2⟩:=(HV.out.below (hb1.mono hB)).2 (by omega)
   subst ha
   have e1:=hc2 j ls[j] (List.getElem?_eq_getElem hjl)
   clear hc2
   have HS:=Lib.hid (numsOct_step ls j hjl)
   generalize ls[j]=y at *
   go_wp2_with fail
   refine (rputNum_any A' (4*j) c' wr.heap.size _ y 4 wr H1.out (Nat.le_refl _) (by omega)).mono ?_
   rw [show widthK 4=4 from rfl,←HS.out]
   rintro e w2 ⟨A3,n3,c3,rfl,g1,g2,hO3,hb3⟩
   have H3:=Lib.hid hO3
   clear hO3
   go_wp2_with fail
   go_roundw
   case rel=>exact ⟨j+1,A3,n3,c3,by omega,by go_num,rfl,H3,hb1.trans (hb3.mono k1)⟩
   case measure=>simp [intOf]<;>omega
  obtain rfl:j=n2:=by omega
  have e:numsOct (ls.take j)=numsOct ls:=by rw [←HL.out,List.take_length]
  rw [e] at H1
  clear e
  go_wp2_with fail
  refine (rputBytes_any A A' n c (4*j) c' wr.heap.size xs (numsOct ls) wr ((HO.out.below (hb1.mono hB)).more (by omega)) H1.out (Nat.le_refl _) hn (by omega)).mono ?_
  rintro e w2 ⟨A3,n3,c3,rfl,g1,g2,hO3,hb3⟩
  have H3:=Lib.hid hO3
  clear hO3
  go_wp2
  go_ret
  exact ⟨A3,n3,c3,rfl,g1,g2,H3.out,hb1.trans (hb3.mono k1)⟩
/- WiRefN:
  The contract of the document's own GetNums; numbers appended to a row of the call's own.
-/
theorem own_fresh {w:World} {base n m c sz:Nat} {el:TypeId} {p:Addr} {xs:List Value} (h:w.ownsRow base el sz (.slice (some p) m c) n xs):base≤p.block:=by
 rcases h.2 with ⟨e,_⟩ | ⟨g,cap,cur,e,hg,_⟩
 ·simp at e
 simp at e
 rw [e.1]
 exact hg
set_option maxHeartbeats 1000000 in
theorem rgetNums_anyF (A:Option Addr) (n c B:Nat) (xs:List Int) (w:World) (hO:Oct w B A n xs) (hnc:n≤c) (hcm:c≤maxLen) (hB:B≤w.heap.size) :
    Calls Tryz.prog 86 #[.slice A n c] w (GotNumsF w B (numsL xs) (numsR xs) (numsE xs)):=by
  have Hc:=Lib.hid (rgetBytes_any A n c B xs w hO hnc hcm hB)
  have hle:=bytesP_le xs hO.2.1
  clear hO
  by_cases hE:bytesE xs=0
  · by_cases h4:(bytesP xs).length % 4=0
    · have e1:numsE xs=0:=by simp [numsE,hE,h4]
      have e2:numsL xs=fours (bytesP xs):=by simp [numsL,e1]
      have e3:numsR xs=bytesR xs:=by simp [numsR,e1]
      rw [e1,e2,e3]
      rw [hE] at Hc
      generalize bytesP xs=ps at *
      generalize bytesR xs=rs at *
      obtain ⟨k,hk⟩:∃ k,ps.length / 4=k:=⟨_,rfl⟩
      have hk4:ps.length=4*k:=by omega
      have HK:=Lib.hid hk
      have HK4:=Lib.hid hk4
      have hkb:k≤262144:=by omega
      clear e1 e2 e3 hE h4 hk hk4 hle
      go_enter Tryz.func86,Tryz.ntmps86
      go_wp2_with fail
      refine Hc.out.mono ?_
      rintro e w1 ⟨A1,n1,c1,A2,n2,c2,rfl,hn1,hc1,hn2,hc2,hO1,hO2,hb1⟩
      have hc1':c1≤9223372036854775807:=hc1
      obtain rfl:n1=4*k:=by rw [←hO1.1,HK4.out]
      have HO1:=Lib.hid hO1
      have HO2:=Lib.hid hO2
      clear hO1 hO2
      have k1:=hb1.size
      have HF:Hid ((fours ps).length=k):=by show _=_;rw [fours_length,HK.out]
      go_wp2_with fail
      go_loopw [5,8] (fun v u w'=>∃ (j m:Nat) (A':Option Addr) (c':Nat),j+m≤k∧k≤j+m∧v=.slice A' (4*m) c'∧4*m≤c'∧c'≤maxLen∧Hid (Oct w' B A' (4*m) (ps.drop (4*j)))∧Hid (w'.ownsRow w1.heap.size 3 1 u j (((fours ps).take j).map (Value.int .i64)))∧Below w1.heap.size w1 w'∧w1.heap.size≤w'.heap.size) (fun v _ _=>match v with | .slice _ n _=>n | _=>0)
      case atStart=>exact ⟨0,k,A1,c1,by omega,by omega,rfl,hn1,hc1,HO1,Lib.hid ⟨rfl,.inl ⟨rfl,rfl⟩⟩,Below.refl _ _,Nat.le_refl _⟩
      case round =>
        obtain ⟨j,m,A',c',hm1,hm2,rfl,g1,g2,H1,H2,hb2,hs2⟩:=hrel
        have g2':c'≤9223372036854775807:=g2
        by_cases hlt:0<m
        · obtain ⟨r,rfl⟩:∃ r,m=r+1:=⟨m-1,by omega⟩
          have HS:=Lib.hid (fours_step ps j (by rw [HK.out];omega))
          have HT:Hid (((fours ps).take j).length=j):=by show _=_;rw [List.length_take,HF.out];omega
          have hdl:(ps.drop (4*j)).length=4*r+4:=by rw [H1.out.1];omega
          have m1:numM (ps.drop (4*j)) 4=numV ((ps.drop (4*j)).take 4):=by rw [numM,show widthK 4=4 from rfl,if_neg (by omega)]
          have m2:numR (ps.drop (4*j)) 4=ps.drop (4*(j+1)):=by rw [numR,show widthK 4=4 from rfl,if_neg (by omega),List.drop_drop];rfl
          have m3:numE (ps.drop (4*j)) 4=0:=by rw [numE,show widthK 4=4 from rfl,if_neg (by omega)]
          have HG:=Lib.hid (rgetNum_any A' (4*(r+1)) c' B (ps.drop (4*j)) 4 wr H1.out g1 g2)
          rw [m1,m2,m3] at HG
          have hl2:(ps.drop (4*(j+1))).length=4*r:=by rw [List.length_drop,HK4.out];omega
          have HL2:=Lib.hid hl2
          clear m1 m2 m3 hdl hl2
          generalize numV ((ps.drop (4*j)).take 4)=y at HS HG
          go_wp2_with fail
          refine HG.out.mono ?_
          rintro e w2 ⟨A3,n3,c3,rfl,g31,g32,hO3,hb3⟩
          obtain rfl:n3=4*r:=by rw [←hO3.1,HL2.out]
          have H3:=Lib.hid hO3
          clear hO3
          have H4:=Lib.hid (own_below H2.out hb3)
          have hb4:Below w1.heap.size w1 w2:=hb2.trans (hb3.mono hs2)
          have hs4:w1.heap.size≤w2.heap.size:=Nat.le_trans hs2 hb3.size
          have hc5:(w2.alloc (.cells #[.int .i64 y] 3)).cell? ⟨w2.heap.size,0,none⟩=some (.int .i64 y):=by
            rw [cell_of_row _ _ 0 #[.int .i64 y] 3 (0,0) (heap_alloc_new w2 _)];rfl
          go_wp2_with (at_builtin
                       refine wpList_append_num _ rfl (.tmp 34) (.tmp 36) rfl rfl w1.heap.size _ ((fours ps).take j) y w2.heap.size rfl rfl ?hown ?hc ?hb ?hbase ?_
                       case hown=>rw [HT.out];exact H4.out.alloc _
                       case hc=>exact hc5
                       case hb=>rw [HT.out];omega
                       case hbase=>simp;omega
                       intro v6 w6 hj6
                       have hb6:=joinedNum_below (H4.out.alloc _) hj6 (hb4.alloc hs4 _) (by simp;omega)
                       have hb7:=(joinedNum_below (H4.out.alloc _) hj6 ((Below.refl _ w2).alloc hs4 _) (by simp;omega)).1
                       have h6:=hj6.1
                       rw [←HS.out,HT.out] at h6
                       have H6:=Lib.hid h6
                       clear h6 hj6)
          go_roundw
          case rel=>exact ⟨j+1,r,A3,c3,by omega,by omega,rfl,g31,g32,Lib.hid (H3.out.below (hb7.mono (Nat.le_trans hB k1))),H6,hb6.1,hb6.2⟩
          case measure=>simp<;>omega
        · obtain rfl:m=0:=by omega
          obtain rfl:j=k:=by omega
          have e:(fours ps).take j=fours ps:=by
            conv=>lhs;arg 1;rw [←HF.out]
            rw [List.take_length]
          rw [e] at H2
          clear e
          obtain ⟨A5,c5,rfl,hn5,hc5,hN5⟩:=own_nums_cap H2.out
          have HN5:=Lib.hid hN5
          clear hN5
          go_wp2_with fail
          go_ret3
          exact ⟨_,_,_,A2,n2,c2,rfl,hn5,hc5,hn2,hc2,HN5.out,HO2.out.below (hb2.mono (Nat.le_trans hB k1)),hb1.trans (hb2.mono k1),fun p e=>by subst e;exact Nat.le_trans k1 (own_fresh H2.out)⟩
    · have e1:numsE xs=2:=by simp [numsE,hE,h4]
      have e2:numsL xs=[]:=by simp [numsL,e1]
      have e3:numsR xs=[]:=by simp [numsR,e1]
      rw [e1,e2,e3]
      rw [hE] at Hc
      generalize bytesP xs=ps at *
      generalize bytesR xs=rs at *
      clear e1 e2 e3 hE
      go_enter Tryz.func86,Tryz.ntmps86
      go_wp2_with fail
      refine Hc.out.mono ?_
      rintro e w1 ⟨A1,n1,c1,A2,n2,c2,rfl,hn1,hc1,hn2,hc2,hO1,hO2,hb1⟩
      have hm:¬n1 % 4=0:=by rw [←hO1.1];exact h4
      have hc1':c1≤9223372036854775807:=hc1
      clear hO1 hO2 h4
      have hm2:((n1:Int) % 4 != 0)=true:=by simp;omega
      have hm3:(n1 % 4 == 0)=false:=by simp;omega
      go_wp2
      go_ret3
      exact ⟨none,0,0,none,0,0,rfl,Nat.le_refl _,Nat.zero_le _,Nat.le_refl _,Nat.zero_le _,Nums.nil _ _ _,Oct.nil _ _ _,hb1,fun p e=>by cases e⟩
  · have e1:numsE xs=bytesE xs:=by simp [numsE,hE]
    have e2:numsL xs=[]:=by simp [numsL,e1,hE]
    have e3:numsR xs=[]:=by simp [numsR,e1,hE]
    rw [e1,e2,e3]
    have hne:(bytesE xs != 0)=true:=by simpa using hE
    generalize bytesE xs=ee at *
    generalize bytesP xs=ps at *
    generalize bytesR xs=rs at *
    clear e1 e2 e3 hE
    go_enter Tryz.func86,Tryz.ntmps86
    go_wp2_with fail
    refine Hc.out.mono ?_
    rintro e w1 ⟨A1,n1,c1,A2,n2,c2,rfl,hn1,hc1,hn2,hc2,hO1,hO2,hb1⟩
    clear hO1 hO2
    go_wp2
    go_ret3
    exact ⟨none,0,0,none,0,0,rfl,Nat.le_refl _,Nat.zero_le _,Nat.le_refl _,Nat.zero_le _,Nums.nil _ _ _,Oct.nil _ _ _,hb1,fun p e=>by cases e⟩
end Go.Proofs.YtognnnjdoemgfaaGreatDoor
